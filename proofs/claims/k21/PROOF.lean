import PyProof.Rows.All
import Wide.All
import OpenK.AllK
import Wide.FinOn
import HandS.ForMost
import HandS.Exc
import HandS.ExcOwn
import HandS.ExcInit
import HandS.TryOnly
import HandS.TryMany
import HandS.WordsExc
import HandS.Gcd
import HandS.Wide
import HandS.WideMore
import HandS.WideBits
import HandS.IsInst
import HandS.Style
import HandS.Flow
import HandS.SortRule
import HandS.SortInts
import HandS.Conv
import HandS.ExcField
import KE.SortData
import PySem.Challenge.RW_classledger_k21_whole_steps_and_cycles
set_option Elab.async false
set_option linter.all false
set_option maxRecDepth 100000
set_option maxHeartbeats 4000000
namespace CB
open PySem PySem.Spec PyProof.Rows L2
/-! ### operators of any size -/
section
variable {X : Cx}
theorem op_mulI : OpR X (binaryOp .Mult) (rI IntMulOk fun i j => .int (i * j)) := opI fun _ _ _ _ _ _ _ hc q => mul_int q hc
theorem iop_mulI : OpR X (inplaceOp .Mult) (rI IntMulOk fun i j => .int (i * j)) := opI fun _ _ _ _ _ _ _ hc q => imul_int q hc
/-- math.isqrt of an int below 2 ^ 13000 -/
def rIsqrt : List V → Hp → VK → Prop := fun vs H Q => ∃ a : Int, vs = [.int a] ∧ 0 ≤ a ∧ a < 2 ^ 13000 ∧ Q (.int ((Float64.isqrt a.toNat : Nat) : Int)) H
theorem log_lt {n k : Nat} (h : n < 2 ^ (k + 1)) : n.log2 ≤ k := PySem.W.mg_log h
theorem cr_isqrt : CallR X (.builtin "math.isqrt") rIsqrt := by
  intro pins s σ H vs us Q I r h
  obtain ⟨a, rfl, h0, h1, q⟩ := h
  obtain ⟨u, rfl, ru⟩ := vals1 r
  obtain ⟨t, rfl⟩ := ru
  have hl : a.toNat.log2 ≤ 12999 := log_lt (by
    have e : ((2 : Int) ^ 13000) = ((2 ^ 13000 : Nat) : Int) := by rw [Int.natCast_pow]; rfl
    rw [e] at h1
    show a.toNat < 2 ^ 13000
    omega)
  exact call_function_meets PySem.W.MGF.kind_isqrt PySem.W.MGF.plain_isqrt PySem.W.MGF.entry_isqrt (PySem.W.MGF.args_isqrt _) (PySem.W.mg_run_isqrt a t (by omega) (by omega) (by omega)).meets
    ⟨.int _, H, I.tok _, ⟨_, rfl⟩, q⟩
theorem isqrt_spec (n : Nat) : Float64.isqrt n * Float64.isqrt n ≤ n ∧ n < (Float64.isqrt n + 1) * (Float64.isqrt n + 1) := PySem.Float64.isqrt_spec n
/-! ### a < b < c < d -/
def tChain3 (r r' r'' : R2) (ta tb tc td : TE) : TE := fun σ H Q => ta σ H fun x H1 => tb σ H1 fun y H2 => r x y H2 fun z H3 => ∃ k, z = .bl k ∧
  (if k = true then tc σ H3 fun y' H4 => r' y y' H4 fun z' H5 => ∃ k', z' = .bl k' ∧ (if k' = true then td σ H5 fun w' H6 => r'' y' w' H6 Q else Q (.bl false) H5) else Q (.bl false) H3)
variable {a b c d : Expr} {ta tb tc td : TE} {pos : Pos}
theorem pt_chain3 {o1 o2 o3 : CmpOp} {r r' r'' : R2} (ho : OpR X (compareOp o1) r) (ho' : OpR X (compareOp o2) r') (ho'' : OpR X (compareOp o3) r'') (ha : PE X a ta) (hb : PE X b tb) (hc : PE X c tc) (hd : PE X d td)
    (hm : lastMarks [o1, o2, o3] [b, c, d] = false := by with_unfolding_all rfl) : PT X (.Compare a [o1, o2, o3] [b, c, d] pos) (tTest (tChain3 r r' r'' ta tb tc td)) := by
  refine ⟨fun pins s σ H Q I h => ?_⟩
  refine isTrue_chain (thn (ha.run pins s σ H _ I h) fun v s1 ⟨x, H1, I1, r1, q1⟩ => test_link (thn (hb.run pins s1 σ H1 _ I1 q1) fun u s2 ⟨y, H2, I2, r2, q2⟩ =>
    thn (ho pins s2 σ H2 x y v u _ I2 r1 r2 q2) fun d1 s3 ⟨z, H3, I3, r3, k, e, q3⟩ => ?_)) hm
  subst e
  cases r3
  refine wpAny_truthy_bool ?_
  cases k with
  | false =>
    obtain ⟨k', e', q'⟩ := q3
    cases e'
    exact ite_ff ⟨H3, I3, q'⟩
  | true =>
    refine ite_tt (test_link (thn (hc.run pins s3 σ H3 _ I3 q3) fun u' s4 ⟨y', H4, I4, r4, q4⟩ => thn (ho' pins s4 σ H4 y y' u u' _ I4 r2 r4 q4) fun d2 s5 ⟨z2, H5, I5, r5, k2, e2, q5⟩ => ?_))
    subst e2
    cases r5
    refine wpAny_truthy_bool ?_
    cases k2 with
    | false =>
      obtain ⟨k', e', q'⟩ := q5
      cases e'
      exact ite_ff ⟨H5, I5, q'⟩
    | true =>
      refine ite_tt (test_last (thn (hd.run pins s5 σ H5 _ I5 q5) fun w' s6 ⟨z3, H6, I6, r6, q6⟩ => thn (ho'' pins s6 σ H6 y' z3 u' w' _ I6 r4 r6 q6) fun d3 s7 ⟨z4, H7, I7, r7, k4, e4, q7⟩ => ?_))
      subst e4
      cases r7
      exact wpAny_truthy_bool ⟨H7, I7, q7⟩
end
/-! ### a def that a caller calls by its name -/
structure Cal (P : Program) (w : World) (K : PySem.W.Frag) (mg : Str → Option Value) (base : Heap) (x : Str) (k : Nat) (ps : List Str) (sp : Sp) : Prop where
  ok : ∃ f fd, FnOk P w K mg base CX0 k f fd ps sp ∧ mg x = some (.ref f) ∧ PySem.W.keepIn K (.ref f) = true ∧ Binds K fd ps []
section
variable {X : Cx} {k : Nat} {ps : List Str} {sp : Sp} {x : Str} {p pos : Pos} {e : Expr} {es : List Expr} {t : TA}
theorem pe_cal (C : Cal X.prog X.w X.K X.mg X.base x k ps sp) (hr : Room k X.A) (hg : Gl X x) (ha : PA X (e :: es) t) (hdb : (x == ("__debug__" : Str)) = false := by decide)
    (he : starEach (e :: es) X.env = (false, eval e X.env) :: starEach es X.env := by rfl) (hpl : (backTo pos (starEach es X.env)).any (·.1) = false := by rfl) : PE X (.Call (.Name x p) (e :: es) [] pos) (tCall sp [] E0 t) := by
  obtain ⟨f, fd, F, hm, hk, hb⟩ := C.ok
  exact pe_call F hr hg hm hk hb .nil pass0 ha hdb he hpl
end
/-! ### readings, unfolded -/
section
variable {σ : L2.St} {H : Hp} {Q : VK} {QT : Bool → Hp → Prop} {QA : List V → Hp → Prop} {D : Ends} {i j : Nat} {v x y : V} {ta tb tc td : TE} {tA tB' : TT} {t u : TS} {tr : TA} {K : PySem.W.Frag}
theorem rd_var : tVar i σ H Q = ∃ v, σ[i]? = some (some v) ∧ Q v H := rfl
theorem rd_C : tC v σ H Q = Q v H := rfl
theorem rd_op {r : R2} : tOp r ta tb σ H Q = ta σ H fun x H1 => tb σ H1 fun y H2 => r x y H2 Q := rfl
theorem rd_un {r : V → Hp → VK → Prop} : tUn r ta σ H Q = ta σ H fun x H1 => r x H1 Q := rfl
theorem rd_I {C : Int → Int → Prop} {g : Int → Int → V} : rI C g x y H Q = ∃ i j, x = .int i ∧ y = .int j ∧ C i j ∧ Q (g i j) H := rfl
theorem rd_I0 {g : Int → Int → V} : rI0 g x y H Q = ∃ i j, x = .int i ∧ y = .int j ∧ Q (g i j) H := rfl
theorem rd_U {g : Int → V} : rU g x H Q = ∃ i, x = .int i ∧ Q (g i) H := rfl
theorem rd_Eq : rEq x y H Q = (scal x y = true ∧ Q (.bl (decide (x = y))) H) := rfl
theorem rd_Ne : rNe x y H Q = (scal x y = true ∧ Q (.bl (!decide (x = y))) H) := rfl
theorem rd_test : tTest ta σ H QT = ta σ H fun x H' => ∃ k, x = .bl k ∧ QT k H' := rfl
theorem rd_B : L2.tB ta σ H QT = ta σ H fun x H' => ∃ k, x = .bl k ∧ QT k H' := rfl
theorem rd_and {s t : TT} : tAnd s t σ H QT = s σ H fun c H1 => if c = true then t σ H1 QT else QT false H1 := rfl
theorem rd_or {s t : TT} : tOr s t σ H QT = s σ H fun c H1 => if c = true then QT true H1 else t σ H1 QT := rfl
theorem rd_not {s : TT} : tNot s σ H QT = s σ H fun c H1 => QT (!c) H1 := rfl
theorem rd_andV : tAndV ta tb σ H Q = ta σ H fun x H1 => ∃ c, x = .bl c ∧ if c = true then tb σ H1 Q else Q (.bl false) H1 := rfl
theorem rd_orV : tOrV ta tb σ H Q = ta σ H fun x H1 => ∃ c, x = .bl c ∧ if c = true then Q (.bl true) H1 else tb σ H1 Q := rfl
theorem rd_notV : tNotV ta σ H Q = ta σ H fun x H1 => ∃ c, x = .bl c ∧ Q (.bl (!c)) H1 := rfl
theorem rd_if {c : TT} : tIf c ta tb σ H Q = c σ H fun b H1 => if b = true then ta σ H1 Q else tb σ H1 Q := rfl
theorem rd_chain {r r' : R2} : tChain r r' ta tb tc σ H Q = ta σ H fun x H1 => tb σ H1 fun y H2 => r x y H2 fun z H3 => ∃ k, z = .bl k ∧ (if k = true then tc σ H3 fun w' H4 => r' y w' H4 Q else Q (.bl false) H3) := rfl
theorem rd_chain3 {r r' r'' : R2} : tChain3 r r' r'' ta tb tc td σ H Q = ta σ H fun x H1 => tb σ H1 fun y H2 => r x y H2 fun z H3 => ∃ k, z = .bl k ∧
  (if k = true then tc σ H3 fun y' H4 => r' y y' H4 fun z' H5 => ∃ k', z' = .bl k' ∧ (if k' = true then td σ H5 fun w' H6 => r'' y' w' H6 Q else Q (.bl false) H5) else Q (.bl false) H3) := rfl
theorem rd_next : tNext D σ H = D.nx σ H := rfl
theorem rd_seq : tSeq t u D σ H = t { D with nx := u D } σ H := rfl
theorem rd_drop : tDrop ta D σ H = ta σ H fun _ H1 => D.nx σ H1 := rfl
theorem rd_ret : tRet ta D σ H = ta σ H D.rt := rfl
theorem rd_retN : tRetN D σ H = D.rt .non H := rfl
theorem rd_break : tBreak D σ H = D.bk σ H := rfl
theorem rd_cont : tCont D σ H = D.ct σ H := rfl
theorem rd_ifS {c : TT} : tIfS c t u D σ H = c σ H fun b H1 => if b = true then t D σ H1 else u D σ H1 := rfl
theorem rd_asg {g : TG} : tAsg ta g D σ H = ta σ H fun x H1 => g x σ H1 D.nx := rfl
theorem rd_name {QS : L2.St → Hp → Prop} : gName i v σ H QS = QS (σ.set i (some v)) H := rfl
theorem rd_gsub {to ti : TE} {s : TSet} {QS : L2.St → Hp → Prop} : gSub to ti s v σ H QS = to σ H fun o H1 => ti σ H1 fun i H2 => s o i v H2 fun H3 => QS σ H3 := rfl
theorem rd_gtup {n : Nat} {g : TGs} {QS : L2.St → Hp → Prop} : gTup K n g v σ H QS = ∃ a xs, v = .ref a ∧ SqT K H a xs ∧ xs.length = n ∧ g xs σ H QS := rfl
theorem rd_gcons {g : TG} {gs : TGs} {vs : List V} {QS : L2.St → Hp → Prop} : gCons g gs vs σ H QS = ∃ v r, vs = v :: r ∧ g v σ H fun σ' H' => gs r σ' H' QS := rfl
theorem rd_gnil {vs : List V} {QS : L2.St → Hp → Prop} : gNil vs σ H QS = (vs = [] ∧ QS σ H) := rfl
theorem rd_par : tPar i j tr D σ H = tr σ H fun vs H1 => ∃ v w, vs = [v, w] ∧ D.nx ((σ.set i (some v)).set j (some w)) H1 := rfl
theorem rd_aug {te : TE} {ti : TIp} : tAug i te ti D σ H = ∃ x, σ[i]? = some (some x) ∧ te σ H fun y H1 => ti x y H1 fun z H2 => D.nx (σ.set i (some z)) H2 := rfl
theorem rd_ipI {f : Int → Int → Int} : ipI f x y H Q = ∃ i j, x = .int i ∧ y = .int j ∧ Q (.int (f i j)) H := rfl
theorem rd_nil : tNil σ H QA = QA [] H := rfl
theorem rd_cons : tCons ta tr σ H QA = ta σ H fun x H1 => tr σ H1 fun xs H2 => QA (x :: xs) H2 := rfl
theorem rd_tup : tTup tr σ H Q = tr σ H fun xs H1 => xs.length ≤ sizeLine ∧ ∀ p, H1 p = none → Q (.ref p) (upd H1 p (.tup xs)) := rfl
theorem rd_lst : tLst tr σ H Q = tr σ H fun xs H1 => xs.length ≤ sizeLine ∧ ∀ p, H1 p = none → Q (.ref p) (upd H1 p (.lst xs)) := rfl
theorem rd_CB {r : List V → Hp → VK → Prop} : tCB r tr σ H Q = tr σ H fun vs H1 => r vs H1 Q := rfl
theorem rd_call {sp : Sp} {dvs : List V} {E : XK} : tCall sp dvs E tr σ H Q = tr σ H fun vs H1 => sp (vs ++ dvs) H1 Q E := rfl
theorem rd_callS {sp : Sp} {E : L2.St → XK} : tCallS sp E tr σ H Q = tr σ H fun vs H1 => sp vs H1 Q (E σ) := rfl
theorem rd_ixL : rIxL K x y H Q = ∃ p xs i v, x = .ref p ∧ y = .int i ∧ SqL K H p xs ∧ atI xs i = some v ∧ Q v H := rfl
theorem rd_ixT : rIxT K x y H Q = ∃ p xs i v, x = .ref p ∧ y = .int i ∧ SqT K H p xs ∧ atI xs i = some v ∧ Q v H := rfl
theorem rd_isqrt {vs : List V} : rIsqrt vs H Q = ∃ a : Int, vs = [.int a] ∧ 0 ≤ a ∧ a < 2 ^ 13000 ∧ Q (.int ((Float64.isqrt a.toNat : Nat) : Int)) H := rfl
theorem rd_sum {vs : List V} : rSum K vs H Q = ∃ (a : Addr) (ns : List Int), vs = [V.ref a] ∧ SqL K H a (ns.map V.int) ∧ Q (.int ns.sum) H := rfl
end

/-! ### a def of the text: it stands, its name, its parameters -/
structure Dn (K : PySem.W.Frag) (mg : Str → Option Value) (x : Str) (st : Stmt) (ps : List Str) : Prop where
  ok : ∃ f fd, Fun K x x st f fd ∧ mg x = some (.ref f) ∧ Binds K fd ps []
section
variable {P : Program} {w : World} {K : PySem.W.Frag} {mg : Str → Option Value} {base : Heap}
theorem Dn.cal {x : Str} {st : Stmt} {N ps : List Str} {k : Nat} {sp : Sp} (D : Dn K mg x st ps) (S : FnScope N ps (defScope st)) (len : ∀ vs H Q E, sp vs H Q E → vs.length = ps.length)
    (hbody : ∀ (f : Addr) (cdv : Value) (A : Around) (outer : List Env) (s : Shared) (H : Hp) (vs : List V) (Q : VK) (E : XK), Room k (A.deeper (envOfC x (defScope st) s.heap.objs.size f cdv)) → sp vs H Q E →
      ∃ t, PSs (cxOf CX0 P w K mg base N x (defScope st) f cdv A outer s H E).nox (defBody st) t ∧ t { nx := fun _ H' => Q .non H', rt := Q } (start N vs) H) : Cal P w K mg base x (k + 1) ps sp := by
  obtain ⟨f, fd, F, hm, hb⟩ := D.ok
  exact ⟨f, fd, F.ok S len fun cdv A outer s H vs Q E hr h => hbody f cdv A outer s H vs Q E hr h, hm, F.kp, hb⟩
end
/-- a weaker wish -/
theorem same_upd {H : Hp} {p : Addr} {o : HO} (h : H p = none) : Same H (upd H p o) := fun b x e => by
  rw [upd_ne (ne_of_none e h)]
  exact e
theorem ex_int {p : Int → Prop} {i : Int} : (∃ j, V.int i = V.int j ∧ p j) = p i := by simp
theorem ex_bl {p : Bool → Prop} {i : Bool} : (∃ j, V.bl i = V.bl j ∧ p j) = p i := by simp
theorem ex_ref {p : Addr → Prop} {i : Addr} : (∃ j, V.ref i = V.ref j ∧ p j) = p i := by simp
theorem ex_str {p : Str → Prop} {i : Str} : (∃ j, V.str i = V.str j ∧ p j) = p i := by simp
theorem ex_some {p : V → Prop} {x : V} : (∃ v, some (some x) = some (some v) ∧ p v) = p x := by simp
theorem ex_2i {p : Int → Int → Prop} {i j : Int} : (∃ a b, V.int i = V.int a ∧ V.int j = V.int b ∧ p a b) = p i j := by simp
theorem ex_l1 {p : Int → Prop} {i : Int} : (∃ j, [V.int i] = [V.int j] ∧ p j) = p i := by simp
theorem ex_l2 {p : Int → Int → Prop} {i j : Int} : (∃ a b, [V.int i, V.int j] = [V.int a, V.int b] ∧ p a b) = p i j := propext ⟨fun ⟨_, _, e, h⟩ => by cases e; exact h, fun h => ⟨_, _, rfl, h⟩⟩
theorem ex_v2 {p : V → V → Prop} {i j : V} : (∃ a b, [i, j] = [a, b] ∧ p a b) = p i j := propext ⟨fun ⟨_, _, e, h⟩ => by cases e; exact h, fun h => ⟨_, _, rfl, h⟩⟩
theorem int1_eq {p : Int → Prop} {q : Bool → Prop} {i : Int} : ((∃ j, [V.int i] = [V.int j] ∧ p j) ∨ ∃ k, [V.int i] = [V.bl k] ∧ q k) = p i := by simp
theorem scal_int {i j : Int} : (scal (V.int i) (V.int j) = true) = True := by simp [scal]
theorem scal_str {i j : Str} : (scal (V.str i) (V.str j) = true) = True := by simp [scal]
theorem dec_ii {i j : Int} : decide (V.int i = V.int j) = decide (i = j) := by simp
theorem ite_dec {p : Prop} [Decidable p] {A B : Prop} : (if decide p = true then A else B) = (if p then A else B) := by simp
theorem ite_ndec {p : Prop} [Decidable p] {A B : Prop} : (if (!decide p) = true then A else B) = (if p then B else A) := by
  by_cases h : p <;> simp [h]
section
variable {H : Hp} {Q : VK} {x y v : V}
theorem rd_setL {R : Hp → Prop} : rSetL x y v H R = ∃ p xs k j, x = .ref p ∧ y = .int k ∧ H p = some (.lst xs) ∧ ixN xs.length k = some j ∧ R (upd H p (.lst (xs.set j v))) := rfl
theorem rd_append {K : PySem.W.Frag} {to : TE} {t : TA} {σ : L2.St} : tBM K "list" rAppend to t σ H Q = to σ H fun x H1 => tyV K "list" x H1 ∧ t σ H1 fun xs H2 => ∃ l ys y, x = .ref l ∧ xs = [y] ∧ H2 l = some (.lst ys) ∧ ys.length < sizeLine ∧ Q .non (upd H2 l (.lst (ys ++ [y]))) := rfl
theorem K_nox {X : Cx} : X.nox.K = X.K := rfl
theorem K_cxOf {CX : CXT} {P : Program} {w : World} {K : PySem.W.Frag} {mg : Str → Option Value} {base : Heap} {N : List Str} {qual : Str} {scope : Scope} {f : Addr} {cd : Value} {A : Around} {outer : List Env} {s : Shared} {H : Hp} {E : XK} :
  (cxOf CX P w K mg base N qual scope f cd A outer s H E).K = K := rfl
end
/-- int * int with a small side -/
theorem mulL {i j : Int} (h : -(2 ^ 64) < i ∧ i < 2 ^ 64) : IntMulOk i j := CMul.ok (.inl h)
theorem mulR {i j : Int} (h : -(2 ^ 64) < j ∧ j < 2 ^ 64) : IntMulOk i j := CMul.ok (.inr h)
theorem tyL {K : PySem.W.Frag} {l : Addr} {xs : List V} {H : Hp} (h : H l = some (.lst xs)) : tyV K "list" (.ref l) H := .inl ⟨rfl, _, SqL.of h⟩
/-! ### loops, by a word: the reading stops at ForL .. -/
def ForJ (J : It) (g : TG) (tb : TS) (D : Ends) (σ : L2.St) (H1 : Hp) : Prop := ∃ W : Nat → Nat → L2.St → Hp → Prop, (∃ m, W 0 m σ H1) ∧ ∀ i m σ H, W i m σ H →
  (J.stop i H ∧ D.nx σ H) ∨ (J.go i H ∧ ∃ N : L2.St → Hp → Prop, (∀ σ' H', N σ' H' → ∃ m', m' < m ∧ W (i + 1) m' σ' H') ∧ ∀ x H', J.yld i H x H' → g x σ H' fun σ2 H2 => tb { D with nx := N, ct := N, bk := D.nx } σ2 H2)
def ForL (K : PySem.W.Frag) (a : Addr) := ForJ (Itl K a)
def ForT (K : PySem.W.Frag) (a : Addr) := ForJ (Itt K a)
def ForR (lo : Int) (n : Nat) := ForJ (Itr lo n)
def ForC (lo c : Int) (n : Nat) := ForJ (Itc lo c n)
section
variable {K : PySem.W.Frag} {a : Addr} {xs : List V} {g : TG} {tb : TS} {D : Ends} {σ : L2.St} {H : Hp} {te : TE} {ta : TA}
theorem rd_forL : tFor (iList K te) g tb D σ H = te σ H fun x H1 => ∃ a, x = .ref a ∧ (∃ xs, SqL K H1 a xs) ∧ ForL K a g tb D σ H1 := rfl
theorem rd_forT : tFor (iTup K te) g tb D σ H = te σ H fun x H1 => ∃ a, x = .ref a ∧ (∃ xs, SqT K H1 a xs) ∧ ForT K a g tb D σ H1 := rfl
theorem rd_forR1 : tFor (iRng1 ta) g tb D σ H = ta σ H fun vs H1 => ∃ j : Int, vs = [.int j] ∧ -(2 ^ 62) ≤ j ∧ j < 2 ^ 62 ∧ ForR 0 j.toNat g tb D σ H1 := rfl
theorem rd_forR2 : tFor (iRng2 ta) g tb D σ H = ta σ H fun vs H1 => ∃ i j : Int, vs = [.int i, .int j] ∧ (-(2 ^ 62) ≤ i ∧ i < 2 ^ 62 ∧ -(2 ^ 62) ≤ j ∧ j < 2 ^ 62) ∧ ForR i (j - i).toNat g tb D σ H1 := rfl
theorem rd_forR3 : tFor (iRng3 ta) g tb D σ H = ta σ H fun vs H1 => ∃ (i j c : Int) (n : Nat), vs = [.int i, .int j, .int c] ∧ RgC i j c n ∧ ForC i c n g tb D σ H1 := rfl
theorem ForL.mk (Pv : Nat → L2.St → Hp → Prop) (h0 : Pv 0 σ H) (hl : ∀ i σ H, i ≤ xs.length → Pv i σ H → SqL K H a xs)
    (hs : ∀ i x σ H, xs[i]? = some x → Pv i σ H → g x σ H fun σ2 H2 => tb { D with nx := Pv (i + 1), ct := Pv (i + 1), bk := D.nx } σ2 H2) (hd : ∀ σ H, Pv xs.length σ H → D.nx σ H) : ForL K a g tb D σ H := for_list Pv h0 hl hs hd
theorem ForT.mk (Pv : Nat → L2.St → Hp → Prop) (h0 : Pv 0 σ H) (hl : ∀ i σ H, i ≤ xs.length → Pv i σ H → SqT K H a xs)
    (hs : ∀ i x σ H, xs[i]? = some x → Pv i σ H → g x σ H fun σ2 H2 => tb { D with nx := Pv (i + 1), ct := Pv (i + 1), bk := D.nx } σ2 H2) (hd : ∀ σ H, Pv xs.length σ H → D.nx σ H) : ForT K a g tb D σ H := for_tup Pv h0 hl hs hd
theorem ForR.mk {lo : Int} {n : Nat} (Pv : Nat → L2.St → Hp → Prop) (h0 : Pv 0 σ H)
    (hs : ∀ i σ H, i < n → Pv i σ H → g (.int (lo + i)) σ H fun σ2 H2 => tb { D with nx := Pv (i + 1), ct := Pv (i + 1), bk := D.nx } σ2 H2) (hd : ∀ σ H, Pv n σ H → D.nx σ H) : ForR lo n g tb D σ H := for_range Pv h0 hs hd
theorem ForC.mk {lo c : Int} {n : Nat} (Pv : Nat → L2.St → Hp → Prop) (h0 : Pv 0 σ H)
    (hs : ∀ i σ H, i < n → Pv i σ H → g (.int (lo + (i : Nat) * c)) σ H fun σ2 H2 => tb { D with nx := Pv (i + 1), ct := Pv (i + 1), bk := D.nx } σ2 H2) (hd : ∀ σ H, Pv n σ H → D.nx σ H) : ForC lo c n g tb D σ H := for_rangeC Pv h0 hs hd
/-- while, the test's answer told (it lays nothing) -/
theorem while_mk {c : TT} (Pv : L2.St → Hp → Prop) (μ : L2.St → Hp → Nat) (h0 : Pv σ H)
    (hs : ∀ σ H, Pv σ H → ∃ b : Bool, (∀ Q : Bool → Hp → Prop, Q b H → c σ H Q) ∧ (b = true → tb { D with nx := fun σ' H' => Pv σ' H' ∧ μ σ' H' < μ σ H, ct := fun σ' H' => Pv σ' H' ∧ μ σ' H' < μ σ H, bk := D.nx } σ H) ∧ (b = false → D.nx σ H)) : tWhile c tb D σ H := by
  refine ⟨fun m σ H => m = μ σ H ∧ Pv σ H, ⟨_, rfl, h0⟩, ?_⟩
  rintro m σ H ⟨rfl, p⟩
  obtain ⟨b, hc, h1, h2⟩ := hs σ H p
  refine hc _ ?_
  cases b with
  | true => rw [if_pos rfl]; exact ⟨_, fun σ' H' ⟨p', l⟩ => ⟨_, l, rfl, p'⟩, h1 rfl⟩
  | false => rw [if_neg Bool.false_ne_true]; exact h2 rfl
end
/-! ### comprehensions -/
def LcJ (J : It) (g : TG) (tt : TT) (te : TE) (vs : List Nat) (σ : L2.St) (H1 : Hp) (Q : VK) : Prop := ∀ D, H1 D = none → ∃ W : Nat → Nat → Hp → Prop, (∃ m, W 0 m (upd H1 D (.lst []))) ∧ ∀ i m H, W i m H →
  (J.stop i H ∧ Q (.ref D) H) ∨ (J.go i H ∧ ∃ Nx : Hp → Prop, (∀ H', Nx H' → ∃ m', m' < m ∧ W (i + 1) m' H') ∧ ∀ x H', J.yld i H x H' → g x (wipe σ vs) H' fun σ2 H2 => wipe σ2 vs = wipe σ vs ∧ tt σ2 H2 fun b H3 =>
    if b = true then te σ2 H3 fun y H4 => ∃ acc, H4 D = some (.lst acc) ∧ acc.length < sizeLine ∧ Nx (upd H4 D (.lst (acc ++ [y]))) else Nx H3)
def LcL (K : PySem.W.Frag) (a : Addr) := LcJ (Itl K a)
def LcT (K : PySem.W.Frag) (a : Addr) := LcJ (Itt K a)
def LcR (lo : Int) (n : Nat) := LcJ (Itr lo n)
section
variable {K : PySem.W.Frag} {a : Addr} {xs : List V} {g : TG} {tt : TT} {te tl : TE} {ta : TA} {vs : List Nat} {σ : L2.St} {H : Hp} {Q : VK}
theorem rd_lcL : tLc (iList K tl) g tt te vs σ H Q = tl σ H fun x H1 => ∃ a, x = .ref a ∧ (∃ xs, SqL K H1 a xs) ∧ LcL K a g tt te vs σ H1 Q := rfl
theorem rd_lcT : tLc (iTup K tl) g tt te vs σ H Q = tl σ H fun x H1 => ∃ a, x = .ref a ∧ (∃ xs, SqT K H1 a xs) ∧ LcT K a g tt te vs σ H1 Q := rfl
theorem rd_lcR1 : tLc (iRng1 ta) g tt te vs σ H Q = ta σ H fun us H1 => ∃ j : Int, us = [.int j] ∧ -(2 ^ 62) ≤ j ∧ j < 2 ^ 62 ∧ LcR 0 j.toNat g tt te vs σ H1 Q := rfl
theorem rd_lcR2 : tLc (iRng2 ta) g tt te vs σ H Q = ta σ H fun us H1 => ∃ i j : Int, us = [.int i, .int j] ∧ (-(2 ^ 62) ≤ i ∧ i < 2 ^ 62 ∧ -(2 ^ 62) ≤ j ∧ j < 2 ^ 62) ∧ LcR i (j - i).toNat g tt te vs σ H1 Q := rfl
/-- the word of a comprehension at D: what is made so far, the heap -/
theorem LcL.mk (Pv : Nat → Addr → Hp → Prop) (h0 : ∀ D, H D = none → Pv 0 D (upd H D (.lst []))) (hl : ∀ D i H, i ≤ xs.length → Pv i D H → SqL K H a xs)
    (hs : ∀ D i x H, xs[i]? = some x → Pv i D H → g x (wipe σ vs) H fun σ2 H2 => wipe σ2 vs = wipe σ vs ∧ tt σ2 H2 fun b H3 =>
      if b = true then te σ2 H3 fun y H4 => ∃ acc, H4 D = some (.lst acc) ∧ acc.length < sizeLine ∧ Pv (i + 1) D (upd H4 D (.lst (acc ++ [y]))) else Pv (i + 1) D H3) (hd : ∀ D H', H D = none → Pv xs.length D H' → Q (.ref D) H') : LcL K a g tt te vs σ H Q :=
  fun D hD => lc_list (Qd := fun H' => Q (.ref D) H') (fun i H => Pv i D H) (h0 D hD) (hl D) (hs D) (fun H' p => hd D H' hD p)
theorem LcT.mk (Pv : Nat → Addr → Hp → Prop) (h0 : ∀ D, H D = none → Pv 0 D (upd H D (.lst []))) (hl : ∀ D i H, i ≤ xs.length → Pv i D H → SqT K H a xs)
    (hs : ∀ D i x H, xs[i]? = some x → Pv i D H → g x (wipe σ vs) H fun σ2 H2 => wipe σ2 vs = wipe σ vs ∧ tt σ2 H2 fun b H3 =>
      if b = true then te σ2 H3 fun y H4 => ∃ acc, H4 D = some (.lst acc) ∧ acc.length < sizeLine ∧ Pv (i + 1) D (upd H4 D (.lst (acc ++ [y]))) else Pv (i + 1) D H3) (hd : ∀ D H', H D = none → Pv xs.length D H' → Q (.ref D) H') : LcT K a g tt te vs σ H Q :=
  fun D hD => lc_tup (Qd := fun H' => Q (.ref D) H') (fun i H => Pv i D H) (h0 D hD) (hl D) (hs D) (fun H' p => hd D H' hD p)
theorem LcR.mk {lo : Int} {n : Nat} (Pv : Nat → Addr → Hp → Prop) (h0 : ∀ D, H D = none → Pv 0 D (upd H D (.lst [])))
    (hs : ∀ D i H, i < n → Pv i D H → g (.int (lo + i)) (wipe σ vs) H fun σ2 H2 => wipe σ2 vs = wipe σ vs ∧ tt σ2 H2 fun b H3 =>
      if b = true then te σ2 H3 fun y H4 => ∃ acc, H4 D = some (.lst acc) ∧ acc.length < sizeLine ∧ Pv (i + 1) D (upd H4 D (.lst (acc ++ [y]))) else Pv (i + 1) D H3) (hd : ∀ D H', H D = none → Pv n D H' → Q (.ref D) H') : LcR lo n g tt te vs σ H Q :=
  fun D hD => lc_range (Qd := fun H' => Q (.ref D) H') (fun i H => Pv i D H) (h0 D hD) (hs D) (fun H' p => hd D H' hD p)
theorem rd_yes {QT : Bool → Hp → Prop} : tYes σ H QT = QT true H := rfl
theorem rd_sl {r : V → Option Int → Option Int → Hp → VK → Prop} {tlo thi : L2.St → Hp → (Option Int → Hp → Prop) → Prop} : tSl r te tlo thi σ H Q = te σ H fun x H1 => tlo σ H1 fun l H2 => thi σ H2 fun u H3 => r x l u H3 Q := rfl
theorem rd_noPart {QO : Option Int → Hp → Prop} : tNoPart σ H QO = QO none H := rfl
theorem rd_part {QO : Option Int → Hp → Prop} : tPart te σ H QO = te σ H fun x H1 => ∃ i, x = .int i ∧ QO (some i) H1 := rfl
theorem rd_slL {x : V} {lo hi : Option Int} : rSlL K x lo hi H Q = ∃ a xs, x = .ref a ∧ SqL K H a xs ∧ ∀ p, H p = none → Q (.ref p) (upd H p (.lst (cutV xs lo hi))) := rfl
end
/-! ### isinstance of a built-in class -/
theorem isi_mk {K : PySem.W.Frag} {x : V} {T t : String} {b : Bool} {H : Hp} {Q : VK} (ty : TyX K H x (.type t)) (e : kitB t T = some b) (q : Q (.bl b) H) : rIsi K [x, .ty T] H Q := ⟨x, .ty T, _, _, b, rfl, .ty T, ty, kit_ty e, q⟩
/-! ### the same with the next turn's word a letter (simp doesn't read it) -/
section
variable {K : PySem.W.Frag} {a : Addr} {xs : List V} {g : TG} {tb : TS} {D : Ends} {σ : L2.St} {H : Hp} {te : TE} {ta : TA} {tt : TT} {vs : List Nat} {Q : VK}
theorem while_w {c : TT} (Pw : L2.St → Hp → Prop) (μ : L2.St → Hp → Nat) (h0 : Pw σ H)
    (hs : ∀ σ H, Pw σ H → ∀ N : L2.St → Hp → Prop, (∀ σ' H', Pw σ' H' → μ σ' H' < μ σ H → N σ' H') →
      ∃ b : Bool, (∀ Q : Bool → Hp → Prop, Q b H → c σ H Q) ∧ (b = true → tb { D with nx := N, ct := N, bk := D.nx } σ H) ∧ (b = false → D.nx σ H)) : tWhile c tb D σ H :=
  while_mk Pw μ h0 fun σ H p => hs σ H p _ fun _ _ h1 h2 => ⟨h1, h2⟩
theorem ForL.w (Pw : Nat → L2.St → Hp → Prop) (h0 : Pw 0 σ H) (hl : ∀ i σ H, i ≤ xs.length → Pw i σ H → SqL K H a xs)
    (hs : ∀ i x σ H, xs[i]? = some x → Pw i σ H → ∀ N : L2.St → Hp → Prop, (∀ σ' H', Pw (i + 1) σ' H' → N σ' H') → g x σ H fun σ2 H2 => tb { D with nx := N, ct := N, bk := D.nx } σ2 H2) (hd : ∀ σ H, Pw xs.length σ H → D.nx σ H) : ForL K a g tb D σ H :=
  ForL.mk Pw h0 hl (fun i x σ H e p => hs i x σ H e p _ fun _ _ h => h) hd
theorem ForT.w (Pw : Nat → L2.St → Hp → Prop) (h0 : Pw 0 σ H) (hl : ∀ i σ H, i ≤ xs.length → Pw i σ H → SqT K H a xs)
    (hs : ∀ i x σ H, xs[i]? = some x → Pw i σ H → ∀ N : L2.St → Hp → Prop, (∀ σ' H', Pw (i + 1) σ' H' → N σ' H') → g x σ H fun σ2 H2 => tb { D with nx := N, ct := N, bk := D.nx } σ2 H2) (hd : ∀ σ H, Pw xs.length σ H → D.nx σ H) : ForT K a g tb D σ H :=
  ForT.mk Pw h0 hl (fun i x σ H e p => hs i x σ H e p _ fun _ _ h => h) hd
theorem ForR.w {lo : Int} {n : Nat} (Pw : Nat → L2.St → Hp → Prop) (h0 : Pw 0 σ H)
    (hs : ∀ i σ H, i < n → Pw i σ H → ∀ N : L2.St → Hp → Prop, (∀ σ' H', Pw (i + 1) σ' H' → N σ' H') → g (.int (lo + i)) σ H fun σ2 H2 => tb { D with nx := N, ct := N, bk := D.nx } σ2 H2) (hd : ∀ σ H, Pw n σ H → D.nx σ H) : ForR lo n g tb D σ H :=
  ForR.mk Pw h0 (fun i σ H e p => hs i σ H e p _ fun _ _ h => h) hd
theorem ForC.w {lo c : Int} {n : Nat} (Pw : Nat → L2.St → Hp → Prop) (h0 : Pw 0 σ H)
    (hs : ∀ i σ H, i < n → Pw i σ H → ∀ N : L2.St → Hp → Prop, (∀ σ' H', Pw (i + 1) σ' H' → N σ' H') → g (.int (lo + (i : Nat) * c)) σ H fun σ2 H2 => tb { D with nx := N, ct := N, bk := D.nx } σ2 H2) (hd : ∀ σ H, Pw n σ H → D.nx σ H) : ForC lo c n g tb D σ H :=
  ForC.mk Pw h0 (fun i σ H e p => hs i σ H e p _ fun _ _ h => h) hd
/-- a comprehension: Pw turn D made heap: the list at D holds made -/
theorem LcL.w (Pw : Nat → Addr → List V → Hp → Prop) (h0 : ∀ D, H D = none → Pw 0 D [] (upd H D (.lst []))) (hl : ∀ D i ys H, i ≤ xs.length → Pw i D ys H → SqL K H a xs)
    (hs : ∀ D i x ys H, xs[i]? = some x → Pw i D ys H → ∀ N : Hp → Prop, (∀ ys' H', Pw (i + 1) D ys' H' → N H') → g x (wipe σ vs) H fun σ2 H2 => wipe σ2 vs = wipe σ vs ∧ tt σ2 H2 fun b H3 =>
      if b = true then te σ2 H3 fun y H4 => ∃ acc, H4 D = some (.lst acc) ∧ acc.length < sizeLine ∧ N (upd H4 D (.lst (acc ++ [y]))) else N H3) (hd : ∀ D ys H', H D = none → Pw xs.length D ys H' → Q (.ref D) H') : LcL K a g tt te vs σ H Q :=
  LcL.mk (xs := xs) (fun i D H => ∃ ys, Pw i D ys H) (fun D n => ⟨[], h0 D n⟩) (fun D i H hi ⟨ys, p⟩ => hl D i ys H hi p) (fun D i x H e ⟨ys, p⟩ => hs D i x ys H e p _ fun ys' H' h => ⟨ys', h⟩) (fun D H' n ⟨ys, p⟩ => hd D ys H' n p)
theorem LcT.w (Pw : Nat → Addr → List V → Hp → Prop) (h0 : ∀ D, H D = none → Pw 0 D [] (upd H D (.lst []))) (hl : ∀ D i ys H, i ≤ xs.length → Pw i D ys H → SqT K H a xs)
    (hs : ∀ D i x ys H, xs[i]? = some x → Pw i D ys H → ∀ N : Hp → Prop, (∀ ys' H', Pw (i + 1) D ys' H' → N H') → g x (wipe σ vs) H fun σ2 H2 => wipe σ2 vs = wipe σ vs ∧ tt σ2 H2 fun b H3 =>
      if b = true then te σ2 H3 fun y H4 => ∃ acc, H4 D = some (.lst acc) ∧ acc.length < sizeLine ∧ N (upd H4 D (.lst (acc ++ [y]))) else N H3) (hd : ∀ D ys H', H D = none → Pw xs.length D ys H' → Q (.ref D) H') : LcT K a g tt te vs σ H Q :=
  LcT.mk (xs := xs) (fun i D H => ∃ ys, Pw i D ys H) (fun D n => ⟨[], h0 D n⟩) (fun D i H hi ⟨ys, p⟩ => hl D i ys H hi p) (fun D i x H e ⟨ys, p⟩ => hs D i x ys H e p _ fun ys' H' h => ⟨ys', h⟩) (fun D H' n ⟨ys, p⟩ => hd D ys H' n p)
theorem LcR.w {lo : Int} {n : Nat} (Pw : Nat → Addr → List V → Hp → Prop) (h0 : ∀ D, H D = none → Pw 0 D [] (upd H D (.lst [])))
    (hs : ∀ D i ys H, i < n → Pw i D ys H → ∀ N : Hp → Prop, (∀ ys' H', Pw (i + 1) D ys' H' → N H') → g (.int (lo + i)) (wipe σ vs) H fun σ2 H2 => wipe σ2 vs = wipe σ vs ∧ tt σ2 H2 fun b H3 =>
      if b = true then te σ2 H3 fun y H4 => ∃ acc, H4 D = some (.lst acc) ∧ acc.length < sizeLine ∧ N (upd H4 D (.lst (acc ++ [y]))) else N H3) (hd : ∀ D ys H', H D = none → Pw n D ys H' → Q (.ref D) H') : LcR lo n g tt te vs σ H Q :=
  LcR.mk (fun i D H => ∃ ys, Pw i D ys H) (fun D n => ⟨[], h0 D n⟩) (fun D i H e ⟨ys, p⟩ => hs D i ys H e p _ fun ys' H' h => ⟨ys', h⟩) (fun D H' n ⟨ys, p⟩ => hd D ys H' n p)
end
theorem rd_max2 {xs : List V} {H : Hp} {Q : VK} : (fun (xs : List V) (H : Hp) (Q : VK) => ∃ i j : Int, xs = [.int i, .int j] ∧ Q (.int (if j > i then j else i)) H) xs H Q = ∃ i j : Int, xs = [.int i, .int j] ∧ Q (.int (if j > i then j else i)) H := rfl
theorem rd_wipe0 {σ : L2.St} : wipe σ [] = σ := rfl
theorem rd_wipe1 {σ : L2.St} {v : Nat} {vs : List Nat} : wipe σ (v :: vs) = (wipe σ vs).set v none := rfl
theorem rd_eqD {K : PySem.W.Frag} {x y : V} {H : Hp} {Q : VK} : rEqD K x y H Q = ∃ d e, Dp K H x d ∧ Dp K H y e ∧ SeqAt.shaped d = true ∧ SeqAt.shaped e = true ∧ Q (.bl (PyData.eqv d e)) H := rfl
theorem rd_neD {K : PySem.W.Frag} {x y : V} {H : Hp} {Q : VK} : rNeD K x y H Q = ∃ d e, Dp K H x d ∧ Dp K H y e ∧ SeqAt.shaped d = true ∧ SeqAt.shaped e = true ∧ Q (.bl (!PyData.eqv d e)) H := rfl
theorem rd_rep {x y : V} {H : Hp} {Q : VK} : rRep x y H Q = ∃ l k xs, x = .ref l ∧ y = .int k ∧ H l = some (.lst xs) ∧ -(2 ^ 63) ≤ k ∧ k < 2 ^ 63 ∧ xs.length * k.toNat ≤ sizeLine ∧ ∀ p, H p = none → Q (.ref p) (upd H p (.lst (List.replicate k.toNat xs).flatten)) := rfl
theorem dp_ints {K : PySem.W.Frag} {H : Hp} : ∀ l : List Int, DpAll K H (l.map V.int) (l.map PyData.int)
  | [] => .nil
  | i :: l => .cons (.int i) (dp_ints l)
theorem dp_strs {K : PySem.W.Frag} {H : Hp} : ∀ l : List Str, DpAll K H (l.map V.str) (l.map PyData.str)
  | [] => .nil
  | i :: l => .cons (.str i) (dp_strs l)
/-! ### powers of any size; tuples made of lists; data -/
def CPowI (i j : Int) : Prop := 0 ≤ j ∧ (Builtin.Int.intBits i : Int) * j ≤ 2 ^ 27
theorem op_powI {X : Cx} : OpR X (binaryOp .Pow) (rI CPowI fun i j => .int (i ^ j.toNat)) := opI fun _ _ _ _ _ _ _ hc q => pow_int hc.1 hc.2 q
theorem bits_le {i : Int} {n : Nat} (h : i.natAbs < 2 ^ n) (h0 : 0 < n) : Builtin.Int.intBits i ≤ n := by
  have a := PySem.Flt.log2_lt_of h0 h
  unfold Builtin.Int.intBits
  split <;> omega
theorem powI {i j : Int} {n : Nat} (h : i.natAbs < 2 ^ n) (h0 : 0 < n) (hj : 0 ≤ j) (hz : (n : Int) * j ≤ 2 ^ 27) : CPowI i j := by
  refine ⟨hj, Int.le_trans (Int.mul_le_mul_of_nonneg_right ?_ hj) hz⟩
  exact Int.ofNat_le.mpr (bits_le h h0)
def rTupOf (K : PySem.W.Frag) : List V → Hp → VK → Prop := fun xs H Q => ∃ p ys, xs = [.ref p] ∧ ((SqL K H p ys ∧ ∀ l, H l = none → Q (.ref l) (upd H l (.tup ys))) ∨ (SqT K H p ys ∧ Q (.ref p) H))
theorem cr_tupOf {X : Cx} : CallR X (.type "tuple") (rTupOf X.K) := call_tuple_of
theorem rd_tupOf {K : PySem.W.Frag} {xs : List V} {H : Hp} {Q : VK} : rTupOf K xs H Q = ∃ p ys, xs = [.ref p] ∧ ((SqL K H p ys ∧ ∀ l, H l = none → Q (.ref l) (upd H l (.tup ys))) ∨ (SqT K H p ys ∧ Q (.ref p) H)) := rfl
def rLenS (K : PySem.W.Frag) : List V → Hp → VK → Prop := fun xs H Q => ∃ x n, xs = [x] ∧ LenV K x H n ∧ Q (.int n) H
theorem cr_lenS {X : Cx} : CallR X (.builtin "len") (rLenS X.K) := call_len
theorem rd_lenS {K : PySem.W.Frag} {xs : List V} {H : Hp} {Q : VK} : rLenS K xs H Q = ∃ x n, xs = [x] ∧ LenV K x H n ∧ Q (.int n) H := rfl
theorem rd_gcd {vs : List V} {H : Hp} {Q : VK} : rGcd vs H Q = ∃ a b : Int, vs = [.int a, .int b] ∧ Q (.int ((Nat.gcd a.natAbs b.natAbs : Nat) : Int)) H := rfl
/-- what holds between two statements -/
theorem seq_cut {t u : TS} {D : Ends} {σ : L2.St} {H : Hp} (Pw : L2.St → Hp → Prop) (h1 : ∀ R : L2.St → Hp → Prop, (∀ σ H, Pw σ H → R σ H) → t { D with nx := R } σ H) (h2 : ∀ σ H, Pw σ H → u D σ H) : tSeq t u D σ H := h1 (u D) h2
theorem rd_any {K : PySem.W.Frag} {vs : List V} {H : Hp} {Q : VK} : rAny K vs H Q = ∃ (a : Addr) (bs : List Bool), vs = [V.ref a] ∧ SqL K H a (bs.map V.bl) ∧ Q (.bl (bs.any id)) H := rfl
theorem rd_all {K : PySem.W.Frag} {vs : List V} {H : Hp} {Q : VK} : rAll K vs H Q = ∃ (a : Addr) (bs : List Bool), vs = [V.ref a] ∧ SqL K H a (bs.map V.bl) ∧ Q (.bl (bs.all id)) H := rfl
theorem rd_ext {K : PySem.W.Frag} {to : TE} {t : TA} {σ : L2.St} {H : Hp} {Q : VK} : tBM K "list" rExtend to t σ H Q = to σ H fun x H1 => tyV K "list" x H1 ∧ t σ H1 fun xs H2 => ∃ l b ys zs, x = .ref l ∧ xs = [.ref b] ∧ H2 l = some (.lst ys) ∧ H2 b = some (.lst zs) ∧ ys.length + zs.length ≤ sizeLine ∧ Q .non (upd H2 l (.lst (ys ++ zs))) := rfl
theorem rd_glst {K : PySem.W.Frag} {n : Nat} {g : TGs} {v : V} {σ : L2.St} {H : Hp} {QS : L2.St → Hp → Prop} : gLst K n g v σ H QS = ∃ a xs, v = .ref a ∧ SqL K H a xs ∧ xs.length = n ∧ g xs σ H QS := rfl
theorem ix_listK {X : Cx} {K : PySem.W.Frag} (h : X.K = K) : IxR X (rIxL K) := by
  subst h
  exact ix_list
theorem ix_tupK {X : Cx} {K : PySem.W.Frag} (h : X.K = K) : IxR X (rIxT K) := by
  subst h
  exact ix_tup
end CB/-! sorted of a list of triples of ints, any number of them -/
namespace CB
open PySem PyProof.Rows Srt SrtO L2
abbrev T3 := Int × Int × Int
def lexT (p q : T3) : Bool := if p.1 = q.1 then lexB p.2 q.2 else decide (p.1 < q.1)
theorem lexT_iff {p q : T3} : lexT p q = true ↔ p.1 < q.1 ∨ (p.1 = q.1 ∧ (p.2.1 < q.2.1 ∨ (p.2.1 = q.2.1 ∧ p.2.2 < q.2.2))) := by
  unfold lexT
  by_cases e : p.1 = q.1
  · rw [if_pos e, lexB_iff]
    omega
  · rw [if_neg e, decide_eq_true_eq]
    omega
theorem lexT_no {p q : T3} : lexT p q = false ↔ ¬ (p.1 < q.1 ∨ (p.1 = q.1 ∧ (p.2.1 < q.2.1 ∨ (p.2.1 = q.2.1 ∧ p.2.2 < q.2.2)))) := by
  rw [← lexT_iff]
  cases lexT p q <;> simp
theorem swo_T {α : Type} (k : α → T3) : Swo fun v u => lexT (k v) (k u) := by
  refine ⟨fun x y h => ?_, fun x y z h1 h2 => ?_⟩
  · have a := lexT_iff.mp h
    refine lexT_no.mpr ?_
    omega
  · have a := lexT_no.mp h1
    have b := lexT_no.mp h2
    refine lexT_no.mpr ?_
    omega
theorem lexT_eq {p q : T3} (h1 : lexT p q = false) (h2 : lexT q p = false) : p = q := by
  have a := lexT_no.mp h1
  have b := lexT_no.mp h2
  obtain ⟨p1, p2, p3⟩ := p
  obtain ⟨q1, q2, q3⟩ := q
  simp only at a b
  have e1 : p1 = q1 := by omega
  have e2 : p2 = q2 := by omega
  have e3 : p3 = q3 := by omega
  rw [e1, e2, e3]
/-- two sorted rearrangements of triples are one -/
theorem srtT_uniq : ∀ {l m : List T3}, l.Pairwise (fun p q => lexT q p = false) → m.Pairwise (fun p q => lexT q p = false) → l.Perm m → l = m := fun {l m} h1 h2 h => by
  refine List.Perm.eq_of_pairwise (le := fun p q => lexT q p = false) (fun a b _ _ x y => lexT_eq y x) h1 h2 h
section
variable {prog : Program} {w : World} {A : Around} {E : Value → Shared → Prop} {s : Shared}
def IsTrip (h : Heap) (v : Value) (k : T3) : Prop := ∃ a o t u r n, v = .ref a ∧ h.get? a = some o ∧ o.cls = .type "tuple" ∧ o.data = .seq #[.int k.1 t, .int k.2.1 u, .int k.2.2 r] n
theorem IsTrip.keeps {h h' : Heap} {v : Value} {k : T3} (p : IsTrip h v k) (kk : ∀ b o, h.get? b = some o → o.cls = .type "tuple" → h'.get? b = some o) : IsTrip h' v k := by
  obtain ⟨a, o, t, u, r, n, e, ho, hc, hd⟩ := p
  exact ⟨a, o, t, u, r, n, e, kk _ _ ho hc, hc, hd⟩
theorem firstsT {h : Heap} : ∀ {vs : List Value}, (∀ v ∈ vs, ∃ k, IsTrip h v k) → ∃ fs : List Value, PySem.W.KatTups h vs fs ∧ fs.length = vs.length ∧ ∀ f ∈ fs, ∃ x t, f = Value.int x t
  | [], _ => ⟨[], PySem.W.KatTups.nil, rfl, fun _ hm => by simp at hm⟩
  | v :: vs, hp => by
    obtain ⟨fs, h1, h2, h3⟩ := firstsT (vs := vs) fun v' hm => hp v' (List.mem_cons_of_mem _ hm)
    obtain ⟨k, a, o, t, u, r, n, e, ho, hc, hd⟩ := hp v (List.mem_cons_self ..)
    subst e
    refine ⟨.int k.1 t :: fs, PySem.W.KatTups.cons ho hc hd rfl h1, by rw [List.length_cons, List.length_cons, h2], fun f hm => ?_⟩
    rcases List.mem_cons.mp hm with rfl | hm
    · exact ⟨k.1, t, rfl⟩
    · exact h3 f hm
theorem trip_cmp {vs : List Value} {k : Value → T3} (hp : ∀ v ∈ vs, IsTrip s.heap v (k v)) : SrtO.Cmp prog w A s (tuples' true) (fun p => p.1 ∈ vs) (lt2 fun v u => lexT (k v) (k u)) := by
  intro p q hm hm'
  have h1 := hp _ hm
  have h2 := hp _ hm'
  show wpAny (model prog w) A (keyLt' (tuples' true) p.1 q.1) (fun r s' => s' = s ∧ r = lexT (k p.1) (k q.1)) (fun _ _ => False) s
  generalize k p.1 = kp at h1 ⊢
  generalize k q.1 = kq at h2 ⊢
  obtain ⟨x, y, z⟩ := kp
  obtain ⟨x', y', z'⟩ := kq
  obtain ⟨a, o, t, u, r, n, e, ho, hc, hd⟩ := h1
  obtain ⟨a', o', t', u', r', n', e', ho', hc', hd'⟩ := h2
  rw [e, e']
  simp only at hd hd'
  refine PySem.W.kat_lt ho hd ho' hd' ?_
  show PySem.W.KatLex prog w A true (decide (3 < 3)) _ [(.int x t, .int x' t'), (.int y u, .int y' u'), (.int z r, .int z' r')] 0 s
  refine PySem.W.kat_cons (SeqAt.EqAt.int_int x t x' t' prog w _ _ ?_)
  refine PySem.W.kat_go (fun e1 => ?_) (fun e1 => ?_)
  · have ex : x = x' := by simpa using e1
    refine PySem.W.kat_yes (PySem.W.kat_cons (SeqAt.EqAt.int_int y u y' u' prog w _ _ ?_))
    refine PySem.W.kat_go (fun e2 => ?_) (fun e2 => ?_)
    · have ey : y = y' := by simpa using e2
      refine PySem.W.kat_yes (PySem.W.kat_cons (SeqAt.EqAt.int_int z r z' r' prog w _ _ ?_))
      refine PySem.W.kat_go (fun e3 => ?_) (fun e3 => ?_)
      · have ez : z = z' := by simpa using e3
        have e4 : lexT (x, y, z) (x', y', z') = false := lexT_no.mpr (by simp only; omega)
        exact PySem.W.kat_yes (PySem.W.kat_nil ⟨rfl, e4.symm⟩)
      · have e4 : lexT (x, y, z) (x', y', z') = decide (z < z') := by
          unfold lexT lexB
          simp only
          rw [if_pos ex, if_pos ey]
        refine PySem.W.kat_no (PySem.W.kat_one _ _ (PyProof.Rows.lt_int ?_))
        exact (show s = s ∧ decide (z < z') = lexT (x, y, z) (x', y', z') from ⟨rfl, e4.symm⟩)
    · have ey : ¬ y = y' := by simpa using e2
      have e4 : lexT (x, y, z) (x', y', z') = decide (y < y') := by
        unfold lexT lexB
        simp only
        rw [if_pos ex, if_neg ey]
      refine PySem.W.kat_no (PySem.W.kat_one _ _ (PyProof.Rows.lt_int ?_))
      exact (show s = s ∧ decide (y < y') = lexT (x, y, z) (x', y', z') from ⟨rfl, e4.symm⟩)
  · have ex : ¬ x = x' := by simpa using e1
    have e3 : lexT (x, y, z) (x', y', z') = decide (x < x') := by
      unfold lexT
      simp only
      rw [if_neg ex]
    exact PySem.W.kat_no (oneLt_int ⟨rfl, e3.symm⟩)
theorem trips_sortableO {a : Addr} {vs : List Value} {k : Value → T3} (h0 : 0 < vs.length) (hp : ∀ v ∈ vs, IsTrip s.heap v (k v)) (ha : ∀ o, s.heap.get? a = some o → o.cls ≠ .type "tuple") : SortableO prog w A s a vs fun v u => lexT (k v) (k u) := by
  intro h' keep
  have hp' : ∀ v ∈ vs, IsTrip h' v (k v) := fun v hm => (hp v hm).keeps fun b o e c => keep b o (fun z => by subst z; exact ha o e c) e
  obtain ⟨fs, h1, h2, h3⟩ := firstsT fun v hm => ⟨_, hp' v hm⟩
  refine ⟨tuples' true, fun Q E hq => ?_, trip_cmp hp'⟩
  refine PySem.W.kat_kind (T := .type "int") h1 (by omega) (fun f hm => ?_) (by rfl) ?_
  · obtain ⟨x, t, rfl⟩ := h3 f hm
    exact PySem.W.Looks.now
  · have e : (Value.type "int" != Value.type "tuple") = true := by first | decide +kernel | rfl | decide
    rw [e]
    exact hq
theorem sorted_tripsO {l : Addr} {vs : List Value} {k : Value → T3} {Q : Value → Shared → Prop} (hl : s.heap.IsList l vs.toArray) (hz : vs.length ≤ sizeLine) (hp : ∀ v ∈ vs, IsTrip s.heap v (k v))
    (h : ∀ (h' : Heap) (d : Addr) (out : List Value), Srtd (fun v u => lexT (k v) (k u)) out → Stb (fun v u => lexT (k v) (k u)) out vs → (∀ b o, s.heap.get? b = some o → h'.get? b = some o) → s.heap.objs.size ≤ d → (∃ n, h'.get? d = some (seqObj "list" out.toArray n)) → Q (.ref d) { s with heap := h' }) :
    wpAny (model prog w) A (call (.builtin "sorted") [.ref l]) Q E s := by
  refine sorted_ord (swo_T k) hl hz (fun h2 h₁ a ha kk => ?_) fun out hs hb => ?_
  · refine trips_sortableO (s := { s with heap := h₁ }) (by omega) (fun v hm => (hp v hm).keeps fun b o e _ => (kk b o e).2) fun o e => ?_
    have e' : some o = some (seqObj "list" vs.toArray 0) := e.symm.trans ha
    cases e'
    intro c
    exact absurd (Value.type.inj c) (by decide)
  · exact h _ _ out hs hb (fun b o e => sortedAll_old e) (Nat.le_succ _) (sortedAll_at s.heap vs out.toArray)
end
end CB
namespace CB
open PySem PySem.Spec PyProof.Rows L2
/-- the triple that stands at x -/
def kT (H : Hp) : V → T3
  | .ref r => match H r with
    | some (.tup [.int a, .int b, .int c]) => (a, b, c)
    | _ => (0, 0, 0)
  | _ => (0, 0, 0)
def IsT3 (H : Hp) (x : V) : Prop := ∃ r a b c, x = V.ref r ∧ H r = some (.tup [.int a, .int b, .int c])
theorem IsT3.at {H : Hp} {x : V} (h : IsT3 H x) : ∃ r, x = V.ref r ∧ H r = some (.tup [.int (kT H x).1, .int (kT H x).2.1, .int (kT H x).2.2]) := by
  obtain ⟨r, a, b, c, rfl, e⟩ := h
  refine ⟨r, rfl, ?_⟩
  have q : kT H (V.ref r) = (a, b, c) := by
    show (match H r with
      | some (.tup [.int a, .int b, .int c]) => (a, b, c)
      | _ => (0, 0, 0)) = _
    rw [e]
  rw [q, e]
/-- the list of triples that stand at the xs -/
def Trs (H : Hp) (xs : List V) (ts : List T3) : Prop := (∀ x ∈ xs, IsT3 H x) ∧ ts = xs.map (kT H)
theorem kT_same {H H' : Hp} (s : Same H H') {x : V} (h : IsT3 H x) : kT H' x = kT H x ∧ IsT3 H' x := by
  obtain ⟨r, a, b, c, rfl, e⟩ := h
  have e' := s _ _ e
  refine ⟨?_, r, a, b, c, rfl, e'⟩
  show (match H' r with
      | some (.tup [.int a, .int b, .int c]) => (a, b, c)
      | _ => (0, 0, 0)) = (match H r with
      | some (.tup [.int a, .int b, .int c]) => (a, b, c)
      | _ => (0, 0, 0))
  rw [e, e']
theorem Trs.same {H H' : Hp} {xs : List V} {ts : List T3} (s : Same H H') (h : Trs H xs ts) : Trs H' xs ts := by
  obtain ⟨h1, rfl⟩ := h
  exact ⟨fun x m => (kT_same s (h1 x m)).2, List.map_congr_left fun x m => (kT_same s (h1 x m)).1.symm⟩
theorem Trs.keep {H H' : Hp} {xs : List V} {ts : List T3} (s : ∀ r a b c, H r = some (.tup [.int a, .int b, .int c]) → H' r = some (.tup [.int a, .int b, .int c])) (h : Trs H xs ts) : Trs H' xs ts := by
  obtain ⟨h1, rfl⟩ := h
  refine ⟨fun x m => ?_, List.map_congr_left fun x m => ?_⟩
  · obtain ⟨r, a, b, c, e, q⟩ := h1 x m
    exact ⟨r, a, b, c, e, s _ _ _ _ q⟩
  · obtain ⟨r, a, b, c, rfl, q⟩ := h1 x m
    show (match H r with
      | some (.tup [.int a, .int b, .int c]) => (a, b, c)
      | _ => (0, 0, 0)) = (match H' r with
      | some (.tup [.int a, .int b, .int c]) => (a, b, c)
      | _ => (0, 0, 0))
    rw [q, s _ _ _ _ q]
theorem same_at {H H1 : Hp} {f : Addr} {o : HO} (s : Same H H1) (n : H f = none) : Same H (upd H1 f o) := fun b x e => by
  rw [upd_ne (ne_of_none e n)]
  exact s b x e
theorem Trs.updL {H : Hp} {f : Addr} {l : List V} {o : HO} {xs : List V} {ts : List T3} (h : Trs H xs ts) (e : H f = some (.lst l)) : Trs (upd H f o) xs ts :=
  h.keep fun r a b c q => by rw [upd_ne (ne_of q e (by intro z; cases z))]; exact q
theorem Trs.updN {H : Hp} {f : Addr} {o : HO} {xs : List V} {ts : List T3} (h : Trs H xs ts) (e : H f = none) : Trs (upd H f o) xs ts := h.same (same_upd e)
theorem Trs.nil {H : Hp} : Trs H [] [] := ⟨fun x m => by simp at m, rfl⟩
theorem Trs.snoc {H : Hp} {xs : List V} {ts : List T3} {r : Addr} {a b c : Int} (h : Trs H xs ts) (e : H r = some (.tup [.int a, .int b, .int c])) : Trs H (xs ++ [.ref r]) (ts ++ [(a, b, c)]) := by
  obtain ⟨h1, rfl⟩ := h
  refine ⟨fun x m => ?_, ?_⟩
  · rcases List.mem_append.mp m with m | m
    · exact h1 x m
    · rw [List.mem_singleton.mp m]
      exact ⟨r, a, b, c, rfl, e⟩
  · rw [List.map_append]
    show _ = _ ++ [kT H (.ref r)]
    have q : kT H (V.ref r) = (a, b, c) := by
      show (match H r with
        | some (.tup [.int a, .int b, .int c]) => (a, b, c)
        | _ => (0, 0, 0)) = _
      rw [e]
    rw [q]
theorem Trs.get {H : Hp} {xs : List V} {ts : List T3} {i : Nat} {x : V} (h : Trs H xs ts) (e : xs[i]? = some x) : ∃ r a b c, x = .ref r ∧ H r = some (.tup [.int a, .int b, .int c]) ∧ ts[i]? = some (a, b, c) := by
  obtain ⟨h1, rfl⟩ := h
  obtain ⟨r, e1, e2⟩ := (h1 x (List.mem_of_getElem? e)).at
  exact ⟨r, _, _, _, e1, e2, by rw [List.getElem?_map, e]; rfl⟩
theorem Trs.len {H : Hp} {xs : List V} {ts : List T3} (h : Trs H xs ts) : ts.length = xs.length := by
  rw [h.2, List.length_map]
/-- sorted(xs), xs a list of triples of ints -/
def rSorted3 (K : PySem.W.Frag) : List V → Hp → VK → Prop := fun vs H Q => ∃ (a : Addr) (xs : List V) (ts : List T3), vs = [V.ref a] ∧ SqL K H a xs ∧ Trs H xs ts ∧
  ∀ ys us p, Trs H ys us → us.Pairwise (fun p q => lexT q p = false) → us.Perm ts → H p = none → Q (.ref p) (upd H p (.lst ys))
section
variable {X : Cx}
theorem cr_sorted3 : CallR X (.builtin "sorted") (rSorted3 X.K) := by
  intro pins s σ H vs us Q I r h
  obtain ⟨a, xs, ts, rfl, hs, ⟨hx, rfl⟩, q⟩ := h
  obtain ⟨its, rv, hl, hz⟩ := I.list hs
  obtain ⟨u, rfl, ru⟩ := vals1 r
  obtain rfl : u = Value.ref a := ru
  obtain ⟨e1, e2⟩ := refs_back rv fun x m => by
    obtain ⟨t, e, _⟩ := (hx x m).at
    exact ⟨t, e⟩
  refine sorted_tripsO (k := fun u => kT H (backV u)) hl.isList (by rw [← rv.length]; exact hz) (fun v hv => ?_) fun h' d out h1 h2 kp hd hn => ?_
  · obtain ⟨t, rfl⟩ := e2 v hv
    have hm : V.ref t ∈ xs := by rw [e1]; exact List.mem_map.mpr ⟨_, hv, rfl⟩
    obtain ⟨t', e, ht⟩ := (hx _ hm).at
    cases e
    obtain ⟨_, its2, r2, o, ho, hc, n, hd⟩ := I.hok _ _ ht
    cases r2 with
    | cons ra r2 =>
      cases r2 with
      | cons rb r2 =>
        cases r2 with
        | cons rc r2 =>
          cases r2
          obtain ⟨t1, rfl⟩ := ra
          obtain ⟨t2, rfl⟩ := rb
          obtain ⟨t3, rfl⟩ := rc
          exact ⟨t, o, t1, t2, t3, n, rfl, ho, hc, hd⟩
  · have h3 : ∀ u ∈ out, ∃ a, u = Value.ref a := fun u hu => e2 u (h2.perm.mem_iff.mp hu)
    obtain ⟨n, hn⟩ := hn
    have hp : (out.map backV).Perm xs := by
      rw [e1]
      exact h2.perm.map backV
    have hT : ∀ x ∈ out.map backV, IsT3 H x := fun x m => hx x (hp.mem_iff.mp m)
    have hS : ((out.map backV).map (kT H)).Pairwise (fun p q => lexT q p = false) := by
      rw [List.pairwise_map, List.pairwise_map]
      exact h1
    refine ⟨.ref d, upd H d (.lst (out.map backV)), I.laid (t' := s.toks) kp hd ⟨?_, out, n, vals_back h3, hn⟩, rfl, q _ _ d ⟨hT, rfl⟩ hS (hp.map (kT H)) (I.hok.fresh hd)⟩
    rw [hp.length_eq]
    exact hz
end
section
variable {H : Hp} {Q : VK} {K : PySem.W.Frag} {vs : List V}
theorem rd_sorted3 : rSorted3 K vs H Q = ∃ (a : Addr) (xs : List V) (ts : List T3), vs = [V.ref a] ∧ SqL K H a xs ∧ Trs H xs ts ∧
  ∀ ys us p, Trs H ys us → us.Pairwise (fun p q => lexT q p = false) → us.Perm ts → H p = none → Q (.ref p) (upd H p (.lst ys)) := rfl
end
/-! ### triples as data -/
def dT3 (t : T3) : PyData := .tuple [.int t.1, .int t.2.1, .int t.2.2]
theorem dp_t3 {K : PySem.W.Frag} {H : Hp} {x : V} (h : IsT3 H x) : Dp K H x (dT3 (kT H x)) := by
  obtain ⟨r, rfl, e⟩ := h.at
  exact .tup (SqT.of e) (.cons (.int _) (.cons (.int _) (.cons (.int _) .nil)))
theorem dp_trs {K : PySem.W.Frag} {H : Hp} : ∀ {xs : List V} {ts : List T3}, Trs H xs ts → DpAll K H xs (ts.map dT3) := fun {xs ts} h => by
  obtain ⟨h1, rfl⟩ := h
  induction xs with
  | nil => exact .nil
  | cons x xs ih => exact .cons (dp_t3 (h1 x List.mem_cons_self)) (ih fun y m => h1 y (List.mem_cons_of_mem _ m))
theorem lay_t3 : ∀ ts : List T3, PyData.canLayAll0 (ts.map dT3) = true
  | [] => rfl
  | t :: ts => by
    show (PyData.canLay0 (dT3 t) && PyData.canLayAll0 (ts.map dT3)) = true
    rw [lay_t3 ts]
    rfl
theorem depth_t3 : ∀ ts : List T3, PyData.depthAll (ts.map dT3) ≤ 3
  | [] => by decide
  | t :: ts => by
    have := depth_t3 ts
    show max (PyData.depth (dT3 t)) (PyData.depthAll (ts.map dT3)) ≤ 3
    have e : PyData.depth (dT3 t) = 1 := rfl
    omega
theorem shaped_t3 (ts : List T3) : SeqAt.shaped (.tuple (ts.map dT3)) = true := by
  unfold SeqAt.shaped
  have a : PyData.canLay0 (.tuple (ts.map dT3)) = true := lay_t3 ts
  have b : PyData.depth (.tuple (ts.map dT3)) ≤ 64 := by
    have := depth_t3 ts
    show PyData.depthAll (ts.map dT3) + 1 ≤ 64
    omega
  rw [a, decide_eq_true b]
  rfl
end CB
/-! try with several clauses, each with a name or without -/
namespace CB
open PySem PySem.Spec PyProof.Rows L2
abbrev Cl := Value × Option Nat × (Addr → Value → Option Addr → TS)
def endA (i : Option Nat) (D : Ends) : Ends := match i with
  | none => D
  | some i => { nx := fun p q => D.nx (p.set i none) q, rt := D.rt, bk := fun p q => D.bk (p.set i none) q, ct := fun p q => D.ct (p.set i none) q }
def setA (i : Option Nat) (p : L2.St) (a : Addr) : L2.St := match i with
  | none => p
  | some i => p.set i (some (.ref a))
def wA (K : PySem.W.Frag) (Wo : WX) (D : Ends) : List Cl → WX
  | [] => Wo
  | (c, i, ts) :: r => fun cls d p H => ∃ b, PySem.W.exmOne K cls c = some b ∧ (b = true → ∀ a, H a = none → ts a cls d (endA i D) (setA i p a) H) ∧ (b = false → wA K Wo D r cls d p H)
/-- the clauses of the text -/
inductive HdA (X : Cx) : List ExceptHandler → List Cl → Prop
  | nil : HdA X [] []
  | bare {x : Str} {c : Value} {ts : Addr → Value → Option Addr → TS} {b1 : Stmt} {su : List Stmt} {np pp : Pos} {hs : List ExceptHandler} {l : List Cl} (hc : Names X x c)
      (hw : ∀ (a : Addr) (o : Obj) (cls : Value) (d : Option Addr) (pn : List (Addr × Obj)), Zc cls d o → (∃ vs, o.data = .fields vs) → PSs (X.suite a ((a, o) :: pn)) (b1 :: su) (ts a cls d)) (r : HdA X hs l) :
      HdA X (.ExceptHandler (some (.Name x np)) none (b1 :: su) pp :: hs) ((c, none, ts) :: l)
  | named {x n : Str} {c : Value} {i : Nat} {ts : Addr → Value → Option Addr → TS} {b1 : Stmt} {su : List Stmt} {np pp : Pos} {hs : List ExceptHandler} {l : List Cl} (hc : Names X x c) (hi : X.N[i]? = some n) (hn : X.env.kindOf n = some .local)
      (hw : ∀ (a : Addr) (o : Obj) (cls : Value) (d : Option Addr) (pn : List (Addr × Obj)), Zc cls d o → (∃ vs, o.data = .fields vs) → PSs (X.suite a ((a, o) :: pn)) (b1 :: su) (ts a cls d)) (r : HdA X hs l) :
      HdA X (.ExceptHandler (some (.Name x np)) (some n) (b1 :: su) pp :: hs) ((c, some i, ts) :: l)
section
variable {X : Cx} {body : List Stmt} {h1 : ExceptHandler} {hs : List ExceptHandler} {l : List Cl} {pos : Pos} {tb : WX → TS} {Wo : WX}
theorem ps_tryA (hst : X.stack = X.env :: X.outer) (hf : X.env.frame = some X.env.locals) (hN : X.N.Nodup) (tk : Takes X Wo)
    (hb : ∀ (W : WX) (pn : List (Addr × Obj)) (xe : Value → Shared → Prop), Takes (X.tr pn xe) W → PassesOwn (model X.prog X.w) X.A X.env xe → PSs (X.tr pn xe) body (tb W))
    (hh : HdA X (h1 :: hs) l) : PS X (.Try body (h1 :: hs) [] [] pos) (fun D p H => tb (wA X.K Wo D l) D p H) := by
  refine ⟨fun pins s p H D I hgo => ?_⟩
  have ok := I.ok
  have frm : X.A.frames = some (X.env :: X.outer) := by rw [ok.frames, hst]
  refine wpAny_Try_except (wpAny_mono ((hb (wA X.K Wo D l) (X.pn ++ pins) (fun e s₁ => wpAny (model X.prog X.w) X.A (noteFrame e X.env) (fun _ s₂ => wpAny (model X.prog X.w) X.A (setFlight e none) (fun _ s₃ => wpAny (model X.prog X.w) X.A (handleBy e X.env (h1 :: hs)) (SP X pins D) X.xe s₃) X.xe s₂) X.xe s₁)
    (fun u s' xx => ?_) PassesOwn.looking).run [] s p H D (I.toTry _) hgo) (fun f s1 hsp => ?_) (fun e s1 he => he))
  · obtain ⟨a, B, sI, pins', p', H', cls, d, rfl, Jt, nb, up, sky, na, os, ag, wish⟩ := xx
    have J : Inv X pins p' H' sI := Jt.ofTry ok
    have skyB : Sky B (X.env :: X.outer) a (Zc cls d) X.env.locals s'.heap := by rw [← hst]; exact sky
    show wpAny (model X.prog X.w) X.A (noteFrame (.ref a) X.env) _ _ _
    refine Sky.land Zc.steady frm hf skyB fun hp3 fl3 up3 => ?_
    have J3 : Inv X pins p' H' { s' with heap := hp3 } := J.landed nb fl3.1 (up.trans up3) os ag
    obtain ⟨o3, v3, g3, z3, d3⟩ := fl3.there
    have out : ∀ {hp : Heap} {o : Obj} {vs : Array Value}, hp.FunFrames B (X.env :: X.outer) → hp.get? a = some o → o.data = .fields vs → a ∉ frs (X.env :: X.outer) := fun {hp o vs} ff e dd hm => by
      obtain ⟨_, o', e', hnf⟩ := ff.mem hm; rw [e] at e'; cases e'; exact hnf _ dd
    have nfr := out fl3.2.2.1 g3 d3
    have nL : a ≠ X.env.locals := fun z => nfr (List.mem_filterMap.mpr ⟨X.env, List.mem_cons_self, by rw [hf, z]⟩)
    have nF : a ∉ X.fs := fun hm => by obtain ⟨e, he, q⟩ := List.mem_filterMap.mp hm; exact nfr (List.mem_filterMap.mpr ⟨e, List.mem_cons_of_mem _ he, q⟩)
    have S3 := J3.suite g3 d3 na nL nF
    have LT : PySem.W.Looks (model X.prog X.w) hp3 (typeOf (.ref a)) cls := fun A Q E s k q => wpAny_typeOf_ref (k _ _ g3) (by rw [z3.1]; exact q)
    have test : ∀ {x : Str} {np : Pos} {c : Value} (hc : Names X x c) {Q : Value → Shared → Prop} {E : Value → Shared → Prop}, Q c { s' with heap := hp3 } → wpAny (model X.prog X.w) (X.A.mark (some (.ref a))) (eval (.Name x np) X.env) Q E { s' with heap := hp3 } := fun {x np c} hc {Q E} q => by
      obtain ⟨hg, hdb, hm | ⟨hm, hv, hnn⟩⟩ := hc
      · exact ld_glob (X := X.suite a ((a, o3) :: (X.pn ++ pins))) S3 hg hm q hdb
      · exact ld_blt (X := X.suite a ((a, o3) :: (X.pn ++ pins))) S3 hg hm hv q hnn hdb
    have go : ∀ {hs' : List ExceptHandler} {l' : List Cl}, HdA X hs' l' → wA X.K Wo D l' cls d p' H' → wpAny (model X.prog X.w) X.A (handleBy (.ref a) X.env hs') (SP X pins D) X.xe { s' with heap := hp3 } := by
      intro hs' l' hk
      induction hk with
      | nil =>
        intro w
        refine wpAny_handleBy_nil ?_
        obtain ⟨k1, k2, k3, oe, vs, T, oT, ts', he, hz, hd, h1', hr⟩ := id fl3
        unfold PySem.passOn
        refine wpAny_bind (wpAny_field he hd h1' ?_)
        rw [if_neg (show ¬ ((Value.ref T == Value.none) = true) from by simp)]
        have fin : wpAny (model X.prog X.w) X.A (setFlight (.ref a) X.env.frame) (fun _ s4 => wpAny (model X.prog X.w) X.A (throw (.ref a) : Sem Flow) (SP X pins D) X.xe s4) X.xe { s' with heap := hp3 } := by
          rw [hf]
          refine HandSPX.setFlight_upZ fl3 fun h4 hh4 up4 => wpAny_throw (tk _ _ ?_)
          exact ⟨a, B, sI, pins, p', H', cls, d, rfl, J, nb, (up.trans up3).trans up4, .inr (.inr (by rw [hst]; exact hh4)), na, os, ag, w⟩
        first | exact wpAny_bind (wpAny_pure (wpAny_bind fin)) | exact wpAny_bind fin
      | @bare x c ts b1 su np pp hs2 l2 hc hw r ih =>
        intro w
        obtain ⟨b, hb1, hyes, hno⟩ := w
        refine wpAny_handleBy_cons (codeAny_handlers_test ?_) (by intro q; cases q)
        have LM := PySem.W.exm_one (M := model X.prog X.w) (J3.kIn) LT hb1
        refine test hc (LM.here ?_)
        cases b with
        | true =>
          refine codeAny_handlers_suite (HandSPX.lands_againZ fl3 fun h4 fl4 up4 => ?_)
          have J4 : Inv X pins p' H' { s' with heap := h4 } := J.landed nb fl4.1 ((up.trans up3).trans up4) os ag
          obtain ⟨o4, v4, g4, z4, d4⟩ := fl4.there
          have S4 := J4.suite g4 d4 na nL nF
          refine wpAny_mono ((hw a o4 cls d (X.pn ++ pins) z4 ⟨_, d4⟩).run [] _ _ H' _ S4 (hyes rfl a na)) (fun f s6 hsp => ?_) (fun _ _ z => False.elim z)
          cases f with
          | ret u => obtain ⟨v6, p6, H6, S6, r6, q6⟩ := hsp; exact ⟨_, _, _, S6.unsuite ok, r6, q6⟩
          | _ => obtain ⟨p6, H6, S6, q6⟩ := hsp; exact ⟨_, _, S6.unsuite ok, q6⟩
        | false => exact ih (hno rfl)
      | @named x n c i ts b1 su np pp hs2 l2 hc hi hn hw r ih =>
        intro w
        obtain ⟨b, hb1, hyes, hno⟩ := w
        refine wpAny_handleBy_cons (codeAny_handlers_test ?_) (by intro q; cases q)
        have LM := PySem.W.exm_one (M := model X.prog X.w) (J3.kIn) LT hb1
        refine test hc (LM.here ?_)
        cases b with
        | true =>
          refine codeAny_handlers_suite_as (HandSPX.lands_againZ fl3 fun h4 fl4 up4 => ?_)
          have J4 : Inv X pins p' H' { s' with heap := h4 } := J.landed nb fl4.1 ((up.trans up3).trans up4) os ag
          obtain ⟨o4, v4, g4, z4, d4⟩ := fl4.there
          have S4 := J4.suite g4 d4 na nL nF
          refine store_ok (X := X.suite a ((a, o4) :: (X.pn ++ pins))) (v := .ref a) S4 hN hi (.inl hn) rfl (fun s5 S5 => ?_) (.inr hn)
          refine wpAny_mono ((hw a o4 cls d (X.pn ++ pins) z4 ⟨_, d4⟩).run [] s5 _ H' _ S5 (hyes rfl a na)) (fun f s6 hsp => ?_) (fun _ _ z => False.elim z)
          have gone : ∀ {p6 : L2.St} {H6 : Hp} {Q : Shared → Prop}, Inv (X.suite a ((a, o4) :: (X.pn ++ pins))) [] p6 H6 s6 → (∀ s7, Inv X pins (p6.set i none) H6 s7 → Q s7) →
              wpAny (model X.prog X.w) X.A (do bindName X.env n .none; unbindBehindTheSuite X.env n pp) (fun _ s7 => Q s7) X.xe s6 := fun {p6 H6 Q} S6 hq => gone_ok (S6.unsuite ok) hN hi hn hq
          cases f with
          | ret u => obtain ⟨v6, p6, H6, S6, r6, q6⟩ := hsp; exact gone S6 fun s7 J7 => ⟨_, _, _, J7, r6, q6⟩
          | next => obtain ⟨p6, H6, S6, q6⟩ := hsp; exact gone S6 fun s7 J7 => ⟨_, _, J7, q6⟩
          | brk => obtain ⟨p6, H6, S6, q6⟩ := hsp; exact gone S6 fun s7 J7 => ⟨_, _, J7, q6⟩
          | cont => obtain ⟨p6, H6, S6, q6⟩ := hsp; exact gone S6 fun s7 J7 => ⟨_, _, J7, q6⟩
        | false => exact ih (hno rfl)
    exact go hh wish
  · cases f with
    | ret u => obtain ⟨v, p', H', J', r, q⟩ := hsp; exact ⟨v, p', H', J'.ofTry ok, r, q⟩
    | next => obtain ⟨p', H', J', q⟩ := hsp; exact wpAny_execs_nil ⟨p', H', J'.ofTry ok, q⟩
    | brk => obtain ⟨p', H', J', q⟩ := hsp; exact ⟨p', H', J'.ofTry ok, q⟩
    | cont => obtain ⟨p', H', J', q⟩ := hsp; exact ⟨p', H', J'.ofTry ok, q⟩
end
end CB
/-! the program's errors: Malformed (no own __init__), Refused (with its reason) -/
namespace CB
open PySem PySem.Spec PyProof.Rows L2
structure CalX (P : Program) (w : World) (K : PySem.W.Frag) (mg : Str → Option Value) (base : Heap) (x : Str) (k : Nat) (ps : List Str) (sp : Sp) : Prop where
  ok : ∃ f fd, FnOk P w K mg base (L2.CX P w) k f fd ps sp ∧ mg x = some (.ref f) ∧ PySem.W.keepIn K (.ref f) = true ∧ Binds K fd ps []
section
variable {P : Program} {w : World} {K : PySem.W.Frag} {mg : Str → Option Value} {base : Heap}
theorem Dn.calX {x : Str} {st : Stmt} {N ps : List Str} {k : Nat} {sp : Sp} (D : Dn K mg x st ps) (S : FnScope N ps (defScope st)) (len : ∀ vs H Q E, sp vs H Q E → vs.length = ps.length)
    (hbody : ∀ (f : Addr) (cdv : Value) (A : Around) (outer : List Env) (s : Shared) (H : Hp) (vs : List V) (Q : VK) (E : XK), Room k (A.deeper (envOfC x (defScope st) s.heap.objs.size f cdv)) → sp vs H Q E →
      ∃ t, PSs (cxOf (L2.CX P w) P w K mg base N x (defScope st) f cdv A outer s H E) (defBody st) t ∧ t { nx := fun _ H' => Q .non H', rt := Q } (start N vs) H) : CalX P w K mg base x (k + 1) ps sp := by
  obtain ⟨f, fd, F, hm, hb⟩ := D.ok
  exact ⟨f, fd, F.okX S len fun cdv A outer s H vs Q E hr h => hbody f cdv A outer s H vs Q E hr h, hm, F.kp, hb⟩
end
section
variable {X : Cx} {k : Nat} {ps : List Str} {sp : Sp} {x : Str} {p pos : Pos} {e : Expr} {es : List Expr} {t : TA} {W : WX}
/-- a call that may raise, W what is wished of what it raises -/
theorem pe_calS (C : CalX X.prog X.w X.K X.mg X.base x k ps sp) (tk : Takes X W) (hr : Room k X.A) (hg : Gl X x) (ha : PA X (e :: es) t) (hdb : (x == ("__debug__" : Str)) = false := by decide)
    (he : starEach (e :: es) X.env = (false, eval e X.env) :: starEach es X.env := by rfl) (hpl : (backTo pos (starEach es X.env)).any (·.1) = false := by rfl) : PE X (.Call (.Name x p) (e :: es) [] pos) (tCallS sp (WE W) t) := by
  obtain ⟨f, fd, F, hm, hk, hb⟩ := C.ok
  exact pe_callS F hr hg hm hk hb (fun σ => passAt tk σ) ha hdb he hpl
end
abbrev veB : List Value := [.type "ValueError", .type "Exception", .type "BaseException", .type "object"]
structure ErrM (K : PySem.W.Frag) (mg : Str → Option Value) (C : Addr) : Prop where
  g : mg "Malformed" = some (.ref C)
  x : PySem.W.excIn K C veB "ValueError.__new__" = true
  k : PySem.W.keepIn K (.ref C) = true
  b : PySem.W.subIn K (.ref C) (.type "BaseException") = some true
  t : PySem.W.typeIn K (.ref C) = some (.type "type")
  mm : PySem.W.exmOne K (.ref C) (.ref C) = some true
structure ErrO (K : PySem.W.Frag) (mg : Str → Option Value) (C : Addr) : Prop where
  m : ErrM K mg C
structure ErrR (K : PySem.W.Frag) (mg : Str → Option Value) (M C f : Addr) : Prop where
  g : mg "Refused" = some (.ref C)
  ox : OexC K C
  i : PySem.W.findIn K (.ref C) "__init__" = some (some (.ref f))
  t : PySem.W.typeIn K (.ref f) = some (.type "function")
  n : PySem.W.findIn K (.ref C) "reason" = some none
  xf : XfC K C
  rm : PySem.W.exmOne K (.ref C) (.ref M) = some false
  rr : PySem.W.exmOne K (.ref C) (.ref C) = some true
/-- Refused.__init__(self, reason) -/
def spRI (K : PySem.W.Frag) : Sp := fun vs H Q _ => ∃ (a C : Addr) (v : V), vs = [.ref a, v] ∧ OexC K C ∧ PySem.W.findIn K (.ref C) "reason" = some none ∧ H a = some (exo a C none) ∧
  ∀ dx, H dx = none → dx ≠ a → Q .non (upd (upd H dx (exd dx [("reason", v)])) a (exo a C (some dx)))
structure ErrI (P : Program) (w : World) (K : PySem.W.Frag) (mg : Str → Option Value) (base : Heap) (M C : Addr) : Prop where
  m : ErrM K mg M
  r : ∃ f fd, ErrR K mg M C f ∧ FnOk P w K mg base CX0 1 f fd ["self", "reason"] (spRI K) ∧ Binds K fd ["self", "reason"] []
section
variable {P : Program} {w : World} {K : PySem.W.Frag} {mg : Str → Option Value} {base : Heap} {M C : Addr}
end
/-- raise Malformed('..') -/
theorem ps_mal {X : Cx} {W : WX} {M : Addr} {m : Str} {j : Nat} {p p2 pos pp : Pos} (E : ErrM X.K X.mg M) (hc : X.calm = true) (tk : Takes X W) (hg : Gl X "Malformed") : PS X (.Raise (some (.Call (.Name "Malformed" p) [.Constant (.str m) j p2] [] pos)) none pp) (fun _ σ H => W (.ref M) none σ H) :=
  ps_raise hc tk (pmk_own PySem.F.excBase_ValueError E.x E.g E.k (raises_own E.b E.t) hg)
/-- raise Refused('..') -/
theorem ps_ref {X : Cx} {W : WX} {M C : Addr} {m : Str} {j : Nat} {p p2 pos pp : Pos} (E : ErrI X.prog X.w X.K X.mg X.base M C) (hc : X.calm = true) (tk : Takes X W) (hr : Room 2 X.A) (hg : Gl X "Refused") (hs : starEach [Expr.Constant (.str m) j p2] X.env = (false, eval (Expr.Constant (.str m) j p2) X.env) :: starEach [] X.env := by rfl)
    (hpl : (backTo pos (starEach [] X.env)).any (·.1) = false := by rfl) :
    PS X (.Raise (some (.Call (.Name "Refused" p) [.Constant (.str m) j p2] [] pos)) none pp) (fun _ σ H => ∀ d H', Same H H' → H d = none → H' d = some (.xd [("reason", .str m)]) → W (.ref C) (some d) σ H') := by
  obtain ⟨f, fd, R, F, b⟩ := E.r
  refine ⟨fun pins s σ H D I h => ?_⟩
  refine (ps_raise hc tk (pmk_oex R.ox R.i R.t F hr b .nil pass0 hg R.g (pa_cons pe_str pa_nil hs) rfl hs hpl)).run pins s σ H D I ?_
  show ([V.str m].length ≤ 1000 ∧ _)
  refine ⟨by show 1 ≤ 1000; decide, fun a na => ⟨a, C, .str m, rfl, R.ox, R.n, upd_same, fun dx ndx ne => ⟨rfl, dx, [("reason", .str m)], upd_same, ?_, ?_, ?_⟩⟩⟩
  · rw [upd_ne ne, upd_same]
  · rw [upd_ne ne] at ndx
    exact ndx
  · rw [upd_ne ne] at ndx
    refine h dx _ (fun b o e => ?_) ndx upd_same
    have hbd : b ≠ dx := ne_of_none e ndx
    have hba : b ≠ a := ne_of_none e na
    rw [upd_ne hbd, del_ne hba, upd_ne hba, upd_ne hbd, upd_ne hba]
    exact e
end CB
namespace CB
open PySem PySem.Spec PyProof.Rows L2
theorem exm_b {K : PySem.W.Frag} {S C : Addr} {b : Bool} (h1 : PySem.W.subIn K (.ref C) (.type "BaseException") = some true) (h2 : PySem.W.isClsIn K C = true) (h3 : PySem.W.typeIn K (.ref C) = some (.type "type")) (h4 : PySem.W.subIn K (.ref S) (.ref C) = some b) :
    PySem.W.exmOne K (.ref S) (.ref C) = some b := by
  unfold PySem.W.exmOne
  rw [if_pos (by rw [h1] <;> rfl)]
  show (if ((PySem.W.clsIn K C).isSome && PySem.W.typeIn K (.ref C) == some (.type "type")) = true then PySem.W.subIn K (.ref S) (.ref C) else none) = some b
  have h5 : (PySem.W.clsIn K C).isSome = true := h2
  rw [h5, h3, if_pos (by rfl)]
  exact h4
theorem dn_mk {K : PySem.W.Frag} {h : Heap} {mg : Str → Option Value} {x : Str} {st : Stmt} {ps : List Str} {f : Addr} {oc : Value} {od an : Option Addr} {osl : Array (Option Value)} {kV doc pm cdv ct : Value} (X : K.In h) (G : h.Ns mainGlobals mg)
    (a : PySem.W.nsIn K mainGlobals x = some (some (.ref f))) (l : K.lookup f = some ⟨oc, od, .func (PySem.W.fnOf x x (defArgs st) (defBody st) (defScope st) .none kV doc pm an cdv ct), osl⟩) (c : PySem.W.codeIn K cdv x = true) (k : PySem.W.keepIn K (.ref f) = true)
    (hb : ∀ (kV doc pm : Value) (an : Option Addr) (cdv ct : Value) (us : List Value), us.length = ps.length → bindArgs (PySem.W.fnOf x x (defArgs st) (defBody st) (defScope st) .none kV doc pm an cdv ct) ⟨us, []⟩ = pure (ps.zip us)) : Dn K mg x st ps :=
  ⟨f, _, fun_mk l c k, PySem.W.mg_of X G a, (fun_mk l c k).binds hb⟩
end CB
/-! sorted of a list of pairs of pairs of ints -/
namespace CB
open PySem PySem.Spec PyProof.Rows Srt SrtO L2
abbrev M4 := (Int × Int) × (Int × Int)
def dM (m : M4) : PyData := .tuple [.tuple [.int m.1.1, .int m.1.2], .tuple [.int m.2.1, .int m.2.2]]
def lexM (p q : M4) : Bool := if p.1 = q.1 then lexB p.2 q.2 else lexB p.1 q.1
theorem alike_M (p q : M4) : PySem.W.alike (dM p) (dM q) = true := by
  simp [dM, PySem.W.alike, PySem.W.alikeAll]
theorem eqv_pp (a b c d : Int) : PyData.eqv (.tuple [.int a, .int b]) (.tuple [.int c, .int d]) = decide ((a, b) = (c, d)) := by
  have e : PyData.eqv (.tuple [.int a, .int b]) (.tuple [.int c, .int d]) = ((a == c) && ((b == d) && true)) := rfl
  rw [e]
  by_cases h1 : a = c
  · by_cases h2 : b = d
    · simp [h1, h2]
    · simp [h2]
  · simp [h1]
theorem lt_pp (p q : Int × Int) : PySem.W.dataLt (.tuple [.int p.1, .int p.2]) (.tuple [.int q.1, .int q.2]) = lexB p q := by
  rw [PySem.W.dataLt_ii]
  have h := @lexB_iff p q
  cases hb : lexB p q with
  | true => exact decide_eq_true (h.mp hb)
  | false => exact decide_eq_false fun z => by rw [h.mpr z] at hb; cases hb
theorem lt_M (p q : M4) : PySem.W.dataLt (dM p) (dM q) = lexM p q := by
  unfold dM lexM
  rw [PySem.W.dataLt_pair (by simp [PySem.W.alike, PySem.W.alikeAll]) (by simp [PySem.W.alike, PySem.W.alikeAll]), eqv_pp, eqv_pp, lt_pp, lt_pp]
  by_cases h1 : p.1 = q.1
  · rw [if_pos (decide_eq_true h1), if_pos h1]
    by_cases h2 : p.2 = q.2
    · rw [if_pos (decide_eq_true h2), h2]
      symm
      cases hb : lexB q.2 q.2 with
      | false => rfl
      | true =>
        have := lexB_iff.mp hb
        omega
    · rw [if_neg (fun z => h2 (of_decide_eq_true z))]
  · rw [if_neg (fun z => h1 (of_decide_eq_true z)), if_neg h1]
theorem lexM_iff {p q : M4} : lexM p q = true ↔ (p.1.1 < q.1.1 ∨ (p.1.1 = q.1.1 ∧ (p.1.2 < q.1.2 ∨ (p.1.2 = q.1.2 ∧ (p.2.1 < q.2.1 ∨ (p.2.1 = q.2.1 ∧ p.2.2 < q.2.2)))))) := by
  obtain ⟨⟨a, b⟩, ⟨c, d⟩⟩ := p
  obtain ⟨⟨a', b'⟩, ⟨c', d'⟩⟩ := q
  unfold lexM
  by_cases e : (a, b) = (a', b')
  · rw [if_pos e, lexB_iff]
    have e1 : a = a' := congrArg Prod.fst e
    have e2 : b = b' := congrArg Prod.snd e
    simp only
    omega
  · rw [if_neg e, lexB_iff]
    have : ¬ (a = a' ∧ b = b') := fun z => e (by rw [z.1, z.2])
    simp only
    omega
theorem lexM_no {p q : M4} : lexM p q = false ↔ ¬ (p.1.1 < q.1.1 ∨ (p.1.1 = q.1.1 ∧ (p.1.2 < q.1.2 ∨ (p.1.2 = q.1.2 ∧ (p.2.1 < q.2.1 ∨ (p.2.1 = q.2.1 ∧ p.2.2 < q.2.2)))))) := by
  rw [← lexM_iff]
  cases lexM p q <;> simp
theorem lexM_eq {p q : M4} (h1 : lexM p q = false) (h2 : lexM q p = false) : p = q := by
  have a := lexM_no.mp h1
  have b := lexM_no.mp h2
  obtain ⟨⟨p1, p2⟩, ⟨p3, p4⟩⟩ := p
  obtain ⟨⟨q1, q2⟩, ⟨q3, q4⟩⟩ := q
  simp only at a b
  have e1 : p1 = q1 := by omega
  have e2 : p2 = q2 := by omega
  have e3 : p3 = q3 := by omega
  have e4 : p4 = q4 := by omega
  rw [e1, e2, e3, e4]
theorem srtM_uniq {l m : List M4} (h1 : l.Pairwise (fun p q => lexM q p = false)) (h2 : m.Pairwise (fun p q => lexM q p = false)) (h : l.Perm m) : l = m :=
  List.Perm.eq_of_pairwise (le := fun p q => lexM q p = false) (fun a b _ _ x y => lexM_eq y x) h1 h2 h
/-- x is, in H, the tuple m of tuples -/
def IsM (H : Hp) (x : V) (m : M4) : Prop := ∃ r r1 r2, x = V.ref r ∧ H r = some (.tup [.ref r1, .ref r2]) ∧ H r1 = some (.tup [.int m.1.1, .int m.1.2]) ∧ H r2 = some (.tup [.int m.2.1, .int m.2.2])
theorem IsM.fn {H : Hp} {x : V} {m m' : M4} (h : IsM H x m) (h' : IsM H x m') : m = m' := by
  obtain ⟨r, r1, r2, rfl, e, e1, e2⟩ := h
  obtain ⟨_, _, _, q, f, f1, f2⟩ := h'
  cases q
  rw [e] at f
  cases f
  rw [e1] at f1
  rw [e2] at f2
  obtain ⟨⟨a, b⟩, ⟨c, d⟩⟩ := m
  obtain ⟨⟨a', b'⟩, ⟨c', d'⟩⟩ := m'
  simp only [Option.some.injEq, HO.tup.injEq, List.cons.injEq, V.int.injEq, and_true] at f1 f2
  rw [f1.1, f1.2, f2.1, f2.2]
theorem IsM.same {H H' : Hp} {x : V} {m : M4} (s : Same H H') (h : IsM H x m) : IsM H' x m := by
  obtain ⟨r, r1, r2, q, e, e1, e2⟩ := h
  exact ⟨r, r1, r2, q, s _ _ e, s _ _ e1, s _ _ e2⟩
open Classical in
noncomputable def kM (H : Hp) (x : V) : M4 := if h : ∃ m, IsM H x m then h.choose else ((0, 0), (0, 0))
theorem IsM.k {H : Hp} {x : V} {m : M4} (h : IsM H x m) : kM H x = m := by
  unfold kM
  rw [dif_pos ⟨m, h⟩]
  exact (Exists.choose_spec (⟨m, h⟩ : ∃ m, IsM H x m)).fn h
/-- the list of such tuples at the xs -/
def Mats (H : Hp) (xs : List V) (ms : List M4) : Prop := (∀ x ∈ xs, IsM H x (kM H x)) ∧ ms = xs.map (kM H)
theorem Mats.same {H H' : Hp} {xs : List V} {ms : List M4} (s : Same H H') (h : Mats H xs ms) : Mats H' xs ms := by
  obtain ⟨h1, rfl⟩ := h
  have e : ∀ x ∈ xs, kM H' x = kM H x := fun x m => ((h1 x m).same s).k
  exact ⟨fun x m => by rw [e x m]; exact (h1 x m).same s, List.map_congr_left fun x m => (e x m).symm⟩
theorem Mats.keep {H H' : Hp} {xs : List V} {ms : List M4} (s : ∀ r us, H r = some (.tup us) → H' r = some (.tup us)) (h : Mats H xs ms) : Mats H' xs ms := by
  obtain ⟨h1, rfl⟩ := h
  have g : ∀ x ∈ xs, IsM H' x (kM H x) := fun x m => by
    obtain ⟨r, r1, r2, q, e, e1, e2⟩ := h1 x m
    exact ⟨r, r1, r2, q, s _ _ e, s _ _ e1, s _ _ e2⟩
  exact ⟨fun x m => by rw [(g x m).k]; exact g x m, List.map_congr_left fun x m => ((g x m).k).symm⟩
theorem Mats.updL {H : Hp} {f : Addr} {l : List V} {o : HO} {xs : List V} {ms : List M4} (h : Mats H xs ms) (e : H f = some (.lst l)) : Mats (upd H f o) xs ms :=
  h.keep fun r us q => by rw [upd_ne (ne_of q e (by intro z; cases z))]; exact q
theorem Mats.updN {H : Hp} {f : Addr} {o : HO} {xs : List V} {ms : List M4} (h : Mats H xs ms) (e : H f = none) : Mats (upd H f o) xs ms := h.same (same_upd e)
theorem Mats.nil {H : Hp} : Mats H [] [] := ⟨fun x m => by simp at m, rfl⟩
theorem Mats.snoc {H : Hp} {xs : List V} {ms : List M4} {x : V} {m : M4} (h : Mats H xs ms) (e : IsM H x m) : Mats H (xs ++ [x]) (ms ++ [m]) := by
  obtain ⟨h1, rfl⟩ := h
  refine ⟨fun y hy => ?_, ?_⟩
  · rcases List.mem_append.mp hy with hy | hy
    · exact h1 y hy
    · rw [List.mem_singleton.mp hy, e.k]
      exact e
  · rw [List.map_append, List.map_singleton, e.k]
theorem Mats.get {H : Hp} {xs : List V} {ms : List M4} {i : Nat} {x : V} (h : Mats H xs ms) (e : xs[i]? = some x) : ∃ m, IsM H x m ∧ ms[i]? = some m := by
  obtain ⟨h1, rfl⟩ := h
  exact ⟨_, h1 x (List.mem_of_getElem? e), by rw [List.getElem?_map, e]; rfl⟩
theorem Mats.len {H : Hp} {xs : List V} {ms : List M4} (h : Mats H xs ms) : ms.length = xs.length := by
  rw [h.2, List.length_map]
theorem dp_M {K : PySem.W.Frag} {H : Hp} {x : V} {m : M4} (h : IsM H x m) : Dp K H x (dM m) := by
  obtain ⟨r, r1, r2, rfl, e, e1, e2⟩ := h
  exact .tup (SqT.of e) (.cons (.tup (SqT.of e1) (.cons (.int _) (.cons (.int _) .nil))) (.cons (.tup (SqT.of e2) (.cons (.int _) (.cons (.int _) .nil))) .nil))
theorem dp_Ms {K : PySem.W.Frag} {H : Hp} : ∀ {xs : List V} {ms : List M4}, Mats H xs ms → DpAll K H xs (ms.map dM) := fun {xs ms} h => by
  obtain ⟨h1, rfl⟩ := h
  induction xs with
  | nil => exact .nil
  | cons x xs ih => exact .cons (dp_M (h1 x List.mem_cons_self)) (ih fun y m => h1 y (List.mem_cons_of_mem _ m))
theorem lay_M : ∀ ms : List M4, PyData.canLayAll0 (ms.map dM) = true
  | [] => rfl
  | m :: ms => by
    show (PyData.canLay0 (dM m) && PyData.canLayAll0 (ms.map dM)) = true
    rw [lay_M ms]
    rfl
theorem depth_M : ∀ ms : List M4, PyData.depthAll (ms.map dM) ≤ 3
  | [] => by decide
  | m :: ms => by
    have := depth_M ms
    show max (PyData.depth (dM m)) (PyData.depthAll (ms.map dM)) ≤ 3
    have e : PyData.depth (dM m) = 2 := rfl
    omega
theorem shaped_M (ms : List M4) : SeqAt.shaped (.tuple (ms.map dM)) = true := by
  unfold SeqAt.shaped
  have a : PyData.canLay0 (.tuple (ms.map dM)) = true := lay_M ms
  have b : PyData.depth (.tuple (ms.map dM)) ≤ 64 := by
    have := depth_M ms
    show PyData.depthAll (ms.map dM) + 1 ≤ 64
    omega
  rw [a, decide_eq_true b]
  rfl
/-- sorted(xs), xs a list of pairs of pairs -/
def rSortedM (K : PySem.W.Frag) : List V → Hp → VK → Prop := fun vs H Q => ∃ (a : Addr) (xs : List V) (ms : List M4), vs = [V.ref a] ∧ SqL K H a xs ∧ Mats H xs ms ∧
  ∀ ys us p, Mats H ys us → us.Pairwise (fun p q => lexM q p = false) → us.Perm ms → H p = none → Q (.ref p) (upd H p (.lst ys))
theorem rd_sortedM {K : PySem.W.Frag} {vs : List V} {H : Hp} {Q : VK} : rSortedM K vs H Q = ∃ (a : Addr) (xs : List V) (ms : List M4), vs = [V.ref a] ∧ SqL K H a xs ∧ Mats H xs ms ∧
  ∀ ys us p, Mats H ys us → us.Pairwise (fun p q => lexM q p = false) → us.Perm ms → H p = none → Q (.ref p) (upd H p (.lst ys)) := rfl
section
variable {X : Cx}
theorem each_vals : ∀ {vs : List Value} {xs : List V}, Vals xs vs → PySem.W.EachIs (fun v x => RelV x v) vs xs
  | _, _, .nil => .nil
  | _, _, .cons r h => .cons r (each_vals h)
theorem vals_each : ∀ {vs : List Value} {xs : List V}, PySem.W.EachIs (fun v x => RelV x v) vs xs → Vals xs vs
  | _, _, .nil => .nil
  | _, _, .cons r h => .cons r (vals_each h)
theorem cr_sortedM (hu : X.A.units + 64 < cLine) : CallR X (.builtin "sorted") (rSortedM X.K) := by
  intro pins s σ H vs us Q I r h
  obtain ⟨a, xs, ms, rfl, hs, ⟨hx, rfl⟩, q⟩ := h
  obtain ⟨its, rv, hl, hz⟩ := I.list hs
  obtain ⟨u, rfl, ru⟩ := vals1 r
  obtain rfl : u = Value.ref a := ru
  have hlen := rv.length
  have e0 : PySem.W.EachIs (fun v x => RelV x v) its xs := each_vals rv
  have mem : PySem.W.EachIs (fun v (x : V) => ∃ as, Reads s.heap v (dM (kM H x)) as) its xs := by
    refine PySem.W.EachIs.of_zip (by omega) fun p hp => ?_
    exact Dp.reads I _ _ _ (dp_M (hx p.2 (List.of_mem_zip hp).2)) (e0.zip p hp)
  refine PySem.W.sorted_data (s := s) (β := V) (R := fun v x => RelV x v) (enc := fun x => dM (kM H x)) hl.isList e0 mem (PySem.W.AllAlike.of fun b b' => alike_M _ _) (PySem.W.Sortable.tuples fun b => ⟨_, _, rfl⟩) (by omega) (fun b _ => ?_) fun out ho eo => ?_
  · have : PyData.depth (dM (kM H b)) = 2 := rfl
    omega
  · have ep : (fun b b' : V => PySem.W.dataLe false (fun x => dM (kM H x)) b b') = fun b b' => !lexM (kM H b') (kM H b) := by
      rw [PySem.W.dataLe_eq]
      funext b b'
      show (!PySem.W.dataLt (dM (kM H b')) (dM (kM H b))) = _
      rw [lt_M]
    have hp : (xs.mergeSort (PySem.W.dataLe false (fun x => dM (kM H x)))).Perm xs := List.mergeSort_perm xs _
    have hT : ∀ x ∈ xs.mergeSort (PySem.W.dataLe false (fun x => dM (kM H x))), IsM H x (kM H x) := fun x m => hx x (hp.mem_iff.mp m)
    have hS : ((xs.mergeSort (PySem.W.dataLe false (fun x => dM (kM H x)))).map (kM H)).Pairwise (fun p q => lexM q p = false) := by
      rw [List.pairwise_map]
      have := List.pairwise_mergeSort (le := fun b b' : V => !lexM (kM H b') (kM H b)) (fun x y z h1 h2 => ?_) (fun x y => ?_) xs
      · rw [show PySem.W.dataLe false (fun x => dM (kM H x)) = fun b b' => !lexM (kM H b') (kM H b) from ep]
        exact this.imp fun h => by simpa using h
      · have a1 := lexM_no.mp (by simpa using h1 : lexM (kM H y) (kM H x) = false)
        have a2 := lexM_no.mp (by simpa using h2 : lexM (kM H z) (kM H y) = false)
        have : lexM (kM H z) (kM H x) = false := lexM_no.mpr (by omega)
        simp [this]
      · by_cases c : lexM (kM H y) (kM H x) = true
        · have a1 := lexM_iff.mp c
          have : lexM (kM H x) (kM H y) = false := lexM_no.mpr (by omega)
          simp [this]
        · simp [Bool.not_eq_true _ |>.mp c]
    obtain ⟨n, hn⟩ := sortedAll_at s.heap its (List.toArray out)
    refine ⟨.ref (s.heap.objs.size + 1), upd H (s.heap.objs.size + 1) (.lst (xs.mergeSort (PySem.W.dataLe false (fun x => dM (kM H x))))), I.laid (t' := s.toks) (fun b o e => sortedAll_old e) (Nat.le_succ _) ⟨?_, out, n, vals_each eo, hn⟩, rfl, q _ _ _ ⟨hT, rfl⟩ hS (hp.map (kM H)) (I.hok.fresh (Nat.le_succ _))⟩
    rw [hp.length_eq]
    omega
end
end CB
/-! a call of what an expression tells, one of several defs -/
namespace CB
open PySem PySem.Spec PyProof.Rows L2
structure HeldE (P : Program) (w : World) (K : PySem.W.Frag) (mg : Str → Option Value) (base : Heap) (kk : Nat) (f : Addr) (sp : Sp) : Prop where
  ex : ∃ (k : Nat) (fd : FuncData) (ps : List Str), k ≤ kk ∧ FnOk P w K mg base (L2.CX P w) k f fd ps sp ∧ PySem.W.keepIn K (.ref f) = true ∧ Binds K fd ps []
def tCallE (S : Addr → Sp → Prop) (E : L2.St → XK) (tf : TE) (t : TA) : TE := fun σ H Q => tf σ H fun y H1 => ∃ f sp, y = V.ref f ∧ S f sp ∧ t σ H1 fun vs H2 => sp vs H2 Q (E σ)
section
variable {X : Cx} {S : Addr → Sp → Prop} {kk : Nat} {p pos : Pos} {fe e : Expr} {es : List Expr} {tf : TE} {t : TA} {W : WX}
theorem pe_callE (A : ∀ f sp, S f sp → HeldE X.prog X.w X.K X.mg X.base kk f sp) (tk : Takes X W) (hr : Room kk X.A) (hf : PE X fe tf) (ha : PA X (e :: es) t)
    (ht : eval (.Call fe (e :: es) [] pos) X.env = (do callWith pos (← eval fe X.env) [] (backTo pos (starEach (e :: es) X.env)) (backToKw pos (keywordEach [] X.env))) := by rfl)
    (he : starEach (e :: es) X.env = (false, eval e X.env) :: starEach es X.env := by rfl) (hpl : (backTo pos (starEach es X.env)).any (·.1) = false := by rfl) : PE X (.Call fe (e :: es) [] pos) (tCallE S (WE W) tf t) := by
  refine ⟨fun pins s σ H Q I h => ?_⟩
  refine Call_ (thn (hf.run pins s σ H _ I h) fun u s1 ⟨y, H1, I1, ry, f, sp, ey, hS, q⟩ => ?_) ht
  subst ey
  obtain rfl : u = Value.ref f := ry
  obtain ⟨k, fd, ps, hk, F, hkeep, hb⟩ := (A f sp hS).ex
  refine PySem.W.callWith_K (h₀ := X.base) I1.ok.mod.kin hkeep (thn (ha.run pos pins s1 σ H1 _ I1 q) fun us s2 ⟨vs, H2, I2, r, q2⟩ => ⟨I2.kIn, ?_⟩) he hpl
  exact run_fnS F (hr.mono hk) hb (passAt tk σ) I2 r q2
end
theorem rd_callE {S : Addr → Sp → Prop} {E : L2.St → XK} {tf : TE} {t : TA} {σ : L2.St} {H : Hp} {Q : VK} : tCallE S E tf t σ H Q = tf σ H fun y H1 => ∃ f sp, y = V.ref f ∧ S f sp ∧ t σ H1 fun vs H2 => sp vs H2 Q (E σ) := rfl
theorem CalX.held {P : Program} {w : World} {K : PySem.W.Frag} {mg : Str → Option Value} {base : Heap} {x : Str} {k kk : Nat} {ps : List Str} {sp : Sp} (C : CalX P w K mg base x k ps sp) (h : k ≤ kk) : ∃ f, mg x = some (.ref f) ∧ HeldE P w K mg base kk f sp := by
  obtain ⟨f, fd, F, hm, hk, hb⟩ := C.ok
  exact ⟨f, hm, ⟨k, fd, ps, h, F, hk, hb⟩⟩
end CB
namespace L21
open PySem PySem.Spec PyProof.Rows L2 CB
def top (i : Nat) : Stmt := PySem.Challenge.pw_classledger_k21_whole_steps_and_cycles.main.body.getD i (.Pass ⟨0, 0, 0, 0⟩)
structure Bl (mg : Str → Option Value) : Prop where
  abs : mg "abs" = none
  int : mg "int" = none
  bool : mg "bool" = none
  str : mg "str" = none
  tuple : mg "tuple" = none
  max : mg "max" = none
  range : mg "range" = none
  isinstance : mg "isinstance" = none
  len : mg "len" = none
  all : mg "all" = none
  any : mg "any" = none
  isqrt : mg "isqrt" = some (.builtin "math.isqrt")
  c_HALVED_BITS : ∃ t, mg "HALVED_BITS" = some (.int 32 t)
  c_ITEM_BOUND : ∃ t, mg "ITEM_BOUND" = some (.int 1000000000000000000000000000000000000000000000000000000000000 t)
  c_LARGEST : ∃ t, mg "LARGEST" = some (.int 1000000 t)
local macro_rules | `(tactic| walk_at "rd") => `(tactic| simp (maxSteps := 2000000) only [CB.rd_var, CB.rd_C, CB.rd_op, CB.rd_un, CB.rd_I, CB.rd_I0, CB.rd_U, CB.rd_Eq, CB.rd_Ne, CB.rd_test, CB.rd_B, CB.rd_and, CB.rd_or, CB.rd_not, CB.rd_andV, CB.rd_orV, CB.rd_notV, CB.rd_if, CB.rd_chain, CB.rd_chain3,
  CB.rd_next, CB.rd_seq, CB.rd_drop, CB.rd_ret, CB.rd_retN, CB.rd_break, CB.rd_cont, CB.rd_ifS, CB.rd_asg, CB.rd_name, CB.rd_gsub, CB.rd_gtup, CB.rd_gcons, CB.rd_gnil, CB.rd_par, CB.rd_aug, CB.rd_ipI, CB.rd_nil, CB.rd_cons, CB.rd_tup, CB.rd_lst, CB.rd_CB, CB.rd_call, CB.rd_callS, CB.rd_ixL, CB.rd_ixT, CB.rd_setL, CB.rd_isqrt, CB.rd_sum, CB.rd_append, CB.rd_forL, CB.rd_forT, CB.rd_forR1, CB.rd_forR2, CB.rd_forR3, CB.rd_lcL, CB.rd_lcT, CB.rd_lcR1, CB.rd_lcR2, CB.rd_yes, CB.rd_sl, CB.rd_noPart, CB.rd_part, CB.rd_slL, CB.rd_wipe0, CB.rd_rep, CB.rd_tupOf, CB.rd_lenS, CB.rd_gcd, CB.rd_wipe1, CB.rd_sorted3, CB.rd_any, CB.rd_all, CB.rd_ext, CB.rd_glst, CB.rd_sortedM,
  L2.start, List.map_cons, List.map_nil, List.length_cons, List.length_nil, Nat.reduceAdd, Nat.reduceSub, List.replicate_succ, List.replicate_zero,
  V.int.injEq, V.ref.injEq, V.bl.injEq, V.str.injEq, Option.some.injEq, List.cons.injEq, exists_and_left, exists_eq_left', exists_eq_left, reduceCtorEq, false_and, and_false, or_false, false_or, exists_false, exists_const, and_assoc, true_and, and_true,
  CB.scal_int, CB.scal_str, CB.dec_ii, CB.ite_dec, CB.ite_ndec, List.getElem?_cons_zero, List.getElem?_cons_succ, List.set_cons_zero, List.set_cons_succ, List.append_nil, List.cons_append, List.nil_append, if_true, if_false, Bool.false_eq_true, Bool.not_true, Bool.not_false, CB.K_nox, CB.K_cxOf, eq_self])
local macro_rules | `(tactic| walk_at "rs") => `(tactic| simp (maxSteps := 2000000) only [CB.rd_var, CB.rd_C, CB.rd_op, CB.rd_un, CB.rd_I, CB.rd_I0, CB.rd_U, CB.rd_Eq, CB.rd_Ne, CB.rd_test, CB.rd_B, CB.rd_and, CB.rd_or, CB.rd_not, CB.rd_andV, CB.rd_orV, CB.rd_notV, CB.rd_if, CB.rd_chain, CB.rd_chain3,
  CB.rd_next, CB.rd_drop, CB.rd_ret, CB.rd_retN, CB.rd_break, CB.rd_cont, CB.rd_ifS, CB.rd_asg, CB.rd_name, CB.rd_gsub, CB.rd_gtup, CB.rd_gcons, CB.rd_gnil, CB.rd_par, CB.rd_aug, CB.rd_ipI, CB.rd_nil, CB.rd_cons, CB.rd_tup, CB.rd_lst, CB.rd_CB, CB.rd_call, CB.rd_callS, CB.rd_ixL, CB.rd_ixT, CB.rd_setL, CB.rd_isqrt, CB.rd_sum, CB.rd_append, CB.rd_forL, CB.rd_forT, CB.rd_forR1, CB.rd_forR2, CB.rd_forR3, CB.rd_lcL, CB.rd_lcT, CB.rd_lcR1, CB.rd_lcR2, CB.rd_yes, CB.rd_sl, CB.rd_noPart, CB.rd_part, CB.rd_slL, CB.rd_wipe0, CB.rd_rep, CB.rd_tupOf, CB.rd_lenS, CB.rd_gcd, CB.rd_wipe1, CB.rd_sorted3, CB.rd_any, CB.rd_all, CB.rd_ext, CB.rd_glst, CB.rd_sortedM,
  L2.start, List.map_cons, List.map_nil, List.length_cons, List.length_nil, Nat.reduceAdd, Nat.reduceSub, List.replicate_succ, List.replicate_zero,
  V.int.injEq, V.ref.injEq, V.bl.injEq, V.str.injEq, Option.some.injEq, List.cons.injEq, exists_and_left, exists_eq_left', exists_eq_left, reduceCtorEq, false_and, and_false, or_false, false_or, exists_false, exists_const, and_assoc, true_and, and_true,
  CB.scal_int, CB.scal_str, CB.dec_ii, CB.ite_dec, CB.ite_ndec, List.getElem?_cons_zero, List.getElem?_cons_succ, List.set_cons_zero, List.set_cons_succ, List.append_nil, List.cons_append, List.nil_append, if_true, if_false, Bool.false_eq_true, Bool.not_true, Bool.not_false, CB.K_nox, CB.K_cxOf, eq_self])


section
variable {P : Program} {w : World} {K : PySem.W.Frag} {mg : Str → Option Value} {base : Heap}
/-! ### the draws -/
abbrev s__law_take : Stmt := top 43
theorem sc__law_take : FnScope ["state", "m", "value"] ["state", "m"] (defScope s__law_take) := ⟨rfl, rfl, rfl, by decide +kernel, rfl, by decide +kernel, by decide +kernel⟩

def spTake : Sp := fun vs H Q _ => ∃ (a : Addr) (x y m : Int), vs = [.ref a, .int m] ∧ H a = some (.lst [.int x, .int y]) ∧ 0 < m ∧ m.natAbs.log2 < 9000 ∧
  ∀ v x' y' : Int, 0 ≤ v → v < m → Q (.int v) (upd H a (.lst [.int x', .int y']))
theorem cal_take (D : Dn K mg "_law_take" s__law_take ["state", "m"]) (B : Bl mg) : Cal P w K mg base "_law_take" 1 ["state", "m"] spTake := by
  refine D.cal sc__law_take (fun vs H Q E h => ?_) (fun f cdv A outer s H vs Q E hr h => ?_)
  · obtain ⟨a, x, y, m, rfl, _⟩ := h
    rfl
  · obtain ⟨a, x, y, m, rfl, ha, hm, hz, q⟩ := h
    refine ⟨_, (pss_cons (ps_if (pt_cmpR op_gt (pe_ix ix_list (pv 0) pe_int (fun _ _ => rfl)) pe_int (nomark _)) (pss_cons (ps_set (i := 2) sc__law_take.nd rfl (Or.inl rfl) (pe_op op_mod (pe_callTy call_int1 rfl B.int boot_int (pa_cons (pe_ix ix_list (pv 0) pe_int (fun _ _ => rfl)) pa_nil)) (pv 1)))
  (pss_cons (ps_asg (pe_op op_fdivW (pe_ix ix_list (pv 0) pe_int (fun _ _ => rfl)) (pv 1)) (pg_sub (pv 0) pe_int set_list))
  (pss_one (ps_ret (pv 2))))) pss_nil)
  (pss_cons (ps_asg (pe_op op_mod (pe_callTy call_int1 rfl B.int boot_int (pa_cons (pe_op op_add (pe_op op_mulI (pe_ix ix_list (pv 0) pe_int (fun _ _ => rfl)) pe_int) pe_int) pa_nil)) pe_int) (pg_sub (pv 0) pe_int set_list))
  (pss_one (ps_ret (pe_op op_mod (pe_callTy call_int1 rfl B.int boot_int (pa_cons (pe_op op_fdivW (pe_ix ix_list (pv 0) pe_int (fun _ _ => rfl)) pe_int) pa_nil)) (pv 1)))))), ?_⟩
    walk_at "rd"
    refine ⟨_, SqL.of ha, _, rfl, _, rfl, ite2 (fun h => ?_) (fun h => ?_)⟩
    · refine ⟨_, SqL.of ha, _, rfl, .inl ⟨_, rfl, hm, _, SqL.of ha, _, rfl, _, rfl, ⟨hm, hz⟩, _, ha, _, rfl, ?_⟩⟩
      exact q _ _ _ (Int.emod_nonneg _ (by omega)) (Int.emod_lt_of_pos _ hm)
    · refine ⟨_, SqL.of ha, _, rfl, _, rfl, mulR (by decide), by decide, _, ha, _, rfl, _, SqL.of upd_same, _, rfl, _, rfl, ⟨by decide, by decide +kernel⟩, hm, ?_⟩
      exact q _ _ _ (Int.emod_nonneg _ (by omega)) (Int.emod_lt_of_pos _ hm)
abbrev s__law_state : Stmt := top 42
theorem sc__law_state : FnScope ["script", "seed", "total", "cell"] ["script"] (defScope s__law_state) := ⟨rfl, rfl, rfl, by decide +kernel, rfl, by decide +kernel, by decide +kernel⟩

def spState (K : PySem.W.Frag) : Sp := fun vs H Q _ => ∃ (a : Addr) (ns : List Int), vs = [.ref a] ∧ SqL K H a (ns.map V.int) ∧ ns.length ≤ 63 ∧
  ∀ (p : Addr) (x y : Int) (H' : Hp), Same H H' → H p = none → H' p = some (.lst [.int x, .int y]) → Q (.ref p) H'
theorem cutV63 {ns : List Int} (h : ns.length ≤ 63) : cutV (ns.map V.int) none (some 63) = ns.map V.int := by
  unfold cutV
  rw [HT.sIx_none, show HT.sIx (ns.map V.int).length (ns.map V.int).length (some 63) = min 63 (ns.map V.int).length from HT.sIx_nat _ _ 63, List.length_map, List.drop_zero]
  rw [show min 63 ns.length - 0 = (ns.map V.int).length by rw [List.length_map]; omega, List.take_length]
theorem cal_state (D : Dn K mg "_law_state" s__law_state ["script"]) (B : Bl mg) : Cal P w K mg base "_law_state" 1 ["script"] (spState K) := by
  refine D.cal sc__law_state (fun vs H Q E h => ?_) (fun f cdv A outer s H vs Q E hr h => ?_)
  · obtain ⟨a, ns, rfl, _⟩ := h
    rfl
  · obtain ⟨a, ns, rfl, hS, hl, q⟩ := h
    refine ⟨_, (pss_cons (ps_set (i := 1) sc__law_state.nd rfl (Or.inl rfl) pe_int)
  (pss_cons (ps_set (i := 2) sc__law_state.nd rfl (Or.inl rfl) pe_int)
  (pss_cons (ps_for PassesOwn.never rfl (pi_list (pe_slice sl_list (pv 0) po_none (po_some pe_int))) (pg_name (i := 3) sc__law_state.nd rfl (Or.inl rfl)) (pss_cons (ps_set (i := 1) sc__law_state.nd rfl (Or.inl rfl) (pe_op op_add (pe_op op_mulI (pv 1) pe_int) (pe_callB call_abs rfl B.abs (by decide +kernel) (pa_cons (pv 3) pa_nil))))
  (pss_one (ps_set (i := 2) sc__law_state.nd rfl (Or.inl rfl) (pe_op op_mod (pe_callTy call_int1 rfl B.int boot_int (pa_cons (pe_op op_add (pe_op op_mulI (pv 2) pe_int) (pv 3)) pa_nil)) pe_int)))))
  (pss_one (ps_ret (pe_lst (pa_cons (pv 1) (pa_cons (pv 2) pa_nil)))))))), ?_⟩
    walk_at "rd"
    refine ⟨_, hS, fun c nc => ?_⟩
    rw [cutV63 hl]
    have hc : SqL K (upd H c (.lst (ns.map V.int))) c (ns.map V.int) := SqL.of upd_same
    refine ⟨⟨_, hc⟩, ForL.mk (xs := ns.map V.int) (fun _ σ H' => ∃ x y z, σ = [some (.ref a), some (.int x), some (.int y), z] ∧ H' = upd H c (.lst (ns.map V.int))) ⟨_, _, _, rfl, rfl⟩ ?_ ?_ ?_⟩
    · rintro i σ H' _ ⟨x, y, z, rfl, rfl⟩
      exact hc
    · rintro i v σ H' hv ⟨x, y, z, rfl, rfl⟩
      rw [List.getElem?_map] at hv
      obtain ⟨n, _, rfl⟩ := Option.map_eq_some_iff.mp hv
      walk_at "rd"
      exact ⟨mulR (by decide), mulR (by decide), by decide, _, rfl⟩
    · rintro σ H' ⟨x, y, z, rfl, rfl⟩
      walk_at "rd"
      refine ⟨by decide, fun p np => q p x y _ ((same_upd nc).trans (same_upd np)) ((same_upd nc).free np) upd_same⟩
/-! ### kinds of values -/
def kinds : List String := ["int", "bool", "NoneType", "str", "tuple", "list"]
theorem kit_k {T c : String} (hT : T ∈ kinds) (hc : c ∈ ["int", "bool", "str", "tuple"]) : kitB T c = some (T == c || (T == "bool" && c == "int")) := by
  unfold kinds at hT
  simp only [List.mem_cons, List.not_mem_nil, or_false] at hT hc
  rcases hT with rfl | rfl | rfl | rfl | rfl | rfl <;> rcases hc with rfl | rfl | rfl | rfl <;> decide +kernel
abbrev s_is_integer : Stmt := top 7
theorem sc_is_integer : FnScope ["value"] ["value"] (defScope s_is_integer) := ⟨rfl, rfl, rfl, by decide +kernel, rfl, by decide +kernel, by decide +kernel⟩

def spInt (K : PySem.W.Frag) : Sp := fun vs H Q _ => ∃ (v : V) (T : String), vs = [v] ∧ TyX K H v (.type T) ∧ T ∈ kinds ∧ Q (.bl (T == "int")) H
theorem cal_is_integer (D : Dn K mg "is_integer" s_is_integer ["value"]) (B : Bl mg) : Cal P w K mg base "is_integer" 1 ["value"] (spInt K) := by
  refine D.cal sc_is_integer (fun vs H Q E h => ?_) (fun f cdv A outer s H vs Q E hr h => ?_)
  · obtain ⟨v, T, rfl, _⟩ := h
    rfl
  · obtain ⟨v, T, rfl, ty, hT, q⟩ := h
    refine ⟨_, (pss_one (ps_ret (pe_and (pe_callB call_isi rfl B.isinstance (by decide +kernel) (pa_cons (pv 0) (pa_cons (pe_bltn (v := .ty "int") rfl B.int boot_int rfl) pa_nil))) (pe_one (pe_not (pe_callB call_isi rfl B.isinstance (by decide +kernel) (pa_cons (pv 0) (pa_cons (pe_bltn (v := .ty "bool") rfl B.bool boot_bool rfl) pa_nil)))))))), ?_⟩
    walk_at "rd"
    refine isi_mk ty (kit_k hT (by simp)) ⟨_, rfl, ite2 (fun h => ?_) (fun h => ?_)⟩
    · refine isi_mk ty (kit_k hT (by simp)) ⟨_, rfl, ?_⟩
      rw [show (!(T == "bool" || (T == "bool" && "bool" == "int"))) = (T == "int") from ?_]
      · exact q
      · unfold kinds at hT
        simp only [List.mem_cons, List.not_mem_nil, or_false] at hT
        rcases hT with rfl | rfl | rfl | rfl | rfl | rfl <;> revert h <;> decide +kernel
    · rw [show false = (T == "int") from ?_]
      · exact q
      · unfold kinds at hT
        simp only [List.mem_cons, List.not_mem_nil, or_false] at hT
        rcases hT with rfl | rfl | rfl | rfl | rfl | rfl <;> revert h <;> decide +kernel
abbrev s__law_whole : Stmt := top 46
theorem sc__law_whole : FnScope ["value"] ["value"] (defScope s__law_whole) := ⟨rfl, rfl, rfl, by decide +kernel, rfl, by decide +kernel, by decide +kernel⟩

theorem cal_whole (D : Dn K mg "_law_whole" s__law_whole ["value"]) (B : Bl mg) : Cal P w K mg base "_law_whole" 1 ["value"] (spInt K) := by
  refine D.cal sc__law_whole (fun vs H Q E h => ?_) (fun f cdv A outer s H vs Q E hr h => ?_)
  · obtain ⟨v, T, rfl, _⟩ := h
    rfl
  · obtain ⟨v, T, rfl, ty, hT, q⟩ := h
    refine ⟨_, (pss_one (ps_ret (pe_and (pe_callB call_isi rfl B.isinstance (by decide +kernel) (pa_cons (pv 0) (pa_cons (pe_bltn (v := .ty "int") rfl B.int boot_int rfl) pa_nil))) (pe_one (pe_not (pe_callB call_isi rfl B.isinstance (by decide +kernel) (pa_cons (pv 0) (pa_cons (pe_bltn (v := .ty "bool") rfl B.bool boot_bool rfl) pa_nil)))))))), ?_⟩
    walk_at "rd"
    refine isi_mk ty (kit_k hT (by simp)) ⟨_, rfl, ite2 (fun h => ?_) (fun h => ?_)⟩
    · refine isi_mk ty (kit_k hT (by simp)) ⟨_, rfl, ?_⟩
      rw [show (!(T == "bool" || (T == "bool" && "bool" == "int"))) = (T == "int") from ?_]
      · exact q
      · unfold kinds at hT
        simp only [List.mem_cons, List.not_mem_nil, or_false] at hT
        rcases hT with rfl | rfl | rfl | rfl | rfl | rfl <;> revert h <;> decide +kernel
    · rw [show false = (T == "int") from ?_]
      · exact q
      · unfold kinds at hT
        simp only [List.mem_cons, List.not_mem_nil, or_false] at hT
        rcases hT with rfl | rfl | rfl | rfl | rfl | rfl <;> revert h <;> decide +kernel
end

section
variable {P : Program} {w : World} {K : PySem.W.Frag} {mg : Str → Option Value} {base : Heap} {CM CR : Addr}
/-! ### values of any kind, told by the heap -/
/-- tuples are kept, and all lists but the one at st -/
def Kp (st : Addr) (H H' : Hp) : Prop := (∀ b us, H b = some (.tup us) → H' b = some (.tup us)) ∧ ∀ b us, b ≠ st → H b = some (.lst us) → H' b = some (.lst us)
/-- all but the list at st is kept -/
def But (st : Addr) (H H' : Hp) : Prop := ∀ b o, b ≠ st → H b = some o → H' b = some o
theorem But.refl {st : Addr} {H : Hp} : But st H H := fun _ _ _ e => e
theorem But.trans {st : Addr} {H H1 H2 : Hp} (a : But st H H1) (b : But st H1 H2) : But st H H2 := fun c o n e => b c o n (a c o n e)
theorem But.same {st : Addr} {H H1 H2 : Hp} (a : But st H H1) (b : Same H1 H2) : But st H H2 := fun c o n e => b c o (a c o n e)
theorem But.of {st : Addr} {H H1 : Hp} (b : Same H H1) : But st H H1 := fun c o n e => b c o e
theorem But.upd {st : Addr} {H H1 : Hp} {o : HO} (a : But st H H1) : But st H (upd H1 st o) := fun c o n e => by
  rw [upd_ne n]
  exact a c o n e
theorem Kp.refl {st : Addr} {H : Hp} : Kp st H H := ⟨fun _ _ e => e, fun _ _ _ e => e⟩
theorem Kp.of {st : Addr} {H H' : Hp} (s : Same H H') : Kp st H H' := ⟨fun _ _ e => s _ _ e, fun _ _ _ e => s _ _ e⟩
theorem But.kp {st : Addr} {H H' : Hp} {l : List V} (s : But st H H') (hs : H st = some (.lst l)) : Kp st H H' := ⟨fun _ _ e => s _ _ (ne_of e hs (by intro z; cases z)) e, fun _ _ n e => s _ _ n e⟩
theorem Kp.trans {st : Addr} {H H1 H2 : Hp} (a : Kp st H H1) (b : Kp st H1 H2) : Kp st H H2 := ⟨fun _ _ e => b.1 _ _ (a.1 _ _ e), fun _ _ n e => b.2 _ _ n (a.2 _ _ n e)⟩
def kdV : V → String
  | .bl _ => "bool"
  | .non => "NoneType"
  | .str _ => "str"
  | _ => "int"
def flV : V → Bool
  | .int _ => true
  | .bl _ => true
  | .non => true
  | .str _ => true
  | _ => false
/-- v is of the kind T -/
def KdH (st : Addr) (H : Hp) (v : V) (T : String) : Prop := (flV v = true ∧ T = kdV v) ∨ ∃ p, v = .ref p ∧ ((p ≠ st ∧ T = "list" ∧ ∃ l, H p = some (.lst l)) ∨ (T = "tuple" ∧ ∃ l, H p = some (.tup l)))
theorem KdH.ty {st : Addr} {H : Hp} {v : V} {T : String} (h : KdH st H v T) : TyX K H v (.type T) ∧ T ∈ kinds := by
  rcases h with ⟨hf, rfl⟩ | ⟨p, rfl, ⟨_, rfl, l, e⟩ | ⟨rfl, l, e⟩⟩
  · cases v with
    | int n => exact ⟨.base (.int _), by show "int" ∈ kinds; decide⟩
    | bl b => exact ⟨.base (.bl _), by show "bool" ∈ kinds; decide⟩
    | non => exact ⟨.base .non, by show "NoneType" ∈ kinds; decide⟩
    | str s => exact ⟨.base (.str _), by show "str" ∈ kinds; decide⟩
    | _ => cases hf
  · exact ⟨.base (.lst e), by decide⟩
  · exact ⟨.base (.tup e), by decide⟩
theorem KdH.kp {st : Addr} {H H' : Hp} {v : V} {T : String} (s : Kp st H H') (h : KdH st H v T) : KdH st H' v T := by
  rcases h with h | ⟨p, rfl, ⟨n, rfl, l, e⟩ | ⟨rfl, l, e⟩⟩
  · exact .inl h
  · exact .inr ⟨p, rfl, .inl ⟨n, rfl, l, s.2 _ _ n e⟩⟩
  · exact .inr ⟨p, rfl, .inr ⟨rfl, l, s.1 _ _ e⟩⟩
def ItsH (st : Addr) (H : Hp) (xs : List V) (ts : List String) : Prop := ts.length = xs.length ∧ ∀ (i : Nat) (x : V) (t : String), xs[i]? = some x → ts[i]? = some t → KdH st H x t
theorem ItsH.kp {st : Addr} {H H' : Hp} {xs : List V} {ts : List String} (s : Kp st H H') (h : ItsH st H xs ts) : ItsH st H' xs ts := ⟨h.1, fun i x t hx ht => (h.2 i x t hx ht).kp s⟩
theorem itsH_flat {st : Addr} {H : Hp} {xs : List V} (h : xs.all flV = true) : ItsH st H xs (xs.map kdV) := by
  refine ⟨List.length_map _, fun i x t hx ht => ?_⟩
  rw [List.getElem?_map, hx] at ht
  cases ht
  exact .inl ⟨List.all_eq_true.mp h x (List.mem_of_getElem? hx), rfl⟩
theorem itsH_one {st : Addr} {H : Hp} {p : Addr} {xs : List V} (h : H p = some (.tup xs)) : ItsH st H [V.ref p] ["tuple"] := by
  refine ⟨rfl, fun i x t hx ht => ?_⟩
  match i, hx, ht with
  | 0, hx, ht =>
    cases hx
    cases ht
    exact .inr ⟨p, rfl, .inr ⟨rfl, _, h⟩⟩
  | n + 1, hx, ht => simp at hx
/-- no row of n integers -/
def BadH (n : Nat) (st : Addr) (H : Hp) (v : V) : Prop := (∃ T, KdH st H v T ∧ (T == "tuple") = false) ∨ ∃ (p : Addr) (xs : List V) (ts : List String), v = .ref p ∧ H p = some (.tup xs) ∧ ItsH st H xs ts ∧ xs.length < 1000 ∧ (xs.length ≠ n ∨ ts.all (· == "int") = false)
theorem BadH.kp {n : Nat} {st : Addr} {H H' : Hp} {v : V} (s : Kp st H H') (h : BadH n st H v) : BadH n st H' v := by
  rcases h with ⟨T, h, e⟩ | ⟨p, xs, ts, rfl, hp, hI, hl, hb⟩
  · exact .inl ⟨T, h.kp s, e⟩
  · exact .inr ⟨p, xs, ts, rfl, s.1 _ _ hp, hI.kp s, hl, hb⟩
end

/-! ### whole roots -/
def isq (n : Int) : Int := ((Float64.isqrt n.toNat : Nat) : Int)
theorem isq_nn (n : Int) : 0 ≤ isq n := Int.natCast_nonneg _
theorem isq_le {n : Int} (h : 0 ≤ n) : isq n * isq n ≤ n := by
  have a := (isqrt_spec n.toNat).1
  have b : ((Float64.isqrt n.toNat * Float64.isqrt n.toNat : Nat) : Int) ≤ ((n.toNat : Nat) : Int) := Int.ofNat_le.mpr a
  rw [Int.natCast_mul] at b
  unfold isq
  omega
theorem isq_lt {n : Int} (h : 0 ≤ n) : n < (isq n + 1) * (isq n + 1) := by
  have a := (isqrt_spec n.toNat).2
  have b : ((n.toNat : Nat) : Int) < (((Float64.isqrt n.toNat + 1) * (Float64.isqrt n.toNat + 1) : Nat) : Int) := Int.ofNat_lt.mpr a
  rw [Int.natCast_mul, Int.natCast_add] at b
  unfold isq
  have e : ((1 : Nat) : Int) = 1 := rfl
  rw [e] at b
  omega
theorem sq_lt {r s : Int} (hr : 0 ≤ r) (h : r * r < (s + 1) * (s + 1)) (hs : 0 ≤ s) : r ≤ s := by
  rcases Int.lt_or_le s r with q | q
  · have a : (s + 1) * (s + 1) ≤ r * r := Int.mul_le_mul (by omega) (by omega) (by omega) hr
    omega
  · exact q
theorem isq_uniq {n r : Int} (hr : 0 ≤ r) (h1 : r * r ≤ n) (h2 : n < (r + 1) * (r + 1)) : isq n = r := by
  have hn : 0 ≤ n := Int.le_trans (Int.mul_nonneg hr hr) h1
  have a := sq_lt hr (Int.lt_of_le_of_lt h1 (isq_lt hn)) (isq_nn n)
  have b := sq_lt (isq_nn n) (Int.lt_of_le_of_lt (isq_le hn) h2) hr
  omega
theorem isq_iff {n a : Int} (hn : 0 ≤ n) (ha : 0 ≤ a) : a * a ≤ n ↔ a ≤ isq n := by
  refine ⟨fun h => sq_lt ha (Int.lt_of_le_of_lt h (isq_lt hn)) (isq_nn n), fun h => ?_⟩
  exact Int.le_trans (Int.mul_le_mul h h ha (isq_nn n)) (isq_le hn)
theorem isq_self {n : Int} (h0 : 0 ≤ n) (h : n < 2) : isq n = n := by
  have e : n = 0 ∨ n = 1 := by omega
  rcases e with rfl | rfl
  · exact isq_uniq (by omega) (by omega) (by omega)
  · exact isq_uniq (by omega) (by omega) (by omega)
theorem isq_bd {n c : Int} (hn : 0 ≤ n) (hc : 0 ≤ c) (h : n < (c + 1) * (c + 1)) : isq n ≤ c := sq_lt (isq_nn n) (Int.lt_of_le_of_lt (isq_le hn) h) hc
/-- a bound that omega doesn't read -/
def BIG : Int := 2 ^ 3000
theorem BIG_pos : 1000000000000 < BIG := by decide +kernel
theorem BIG_big : BIG < 2 ^ 13000 := by decide +kernel
theorem bigAbs {i : Int} (h1 : -(16 * BIG) < i) (h2 : i < 16 * BIG) : i.natAbs < 2 ^ 3004 := by
  have e : (16 * BIG : Int) = ((2 ^ 3004 : Nat) : Int) := by decide +kernel
  rw [e] at h1 h2
  omega
theorem mulBig {i j : Int} (h1 : -(16 * BIG) < i) (h2 : i < 16 * BIG) (h3 : -(16 * BIG) < j) (h4 : j < 16 * BIG) : IntMulOk i j :=
  (wide_mul (bigAbs h1 h2) (bigAbs h3 h4) (by decide) (by decide) (by decide)).ok
theorem low_le {a n : Int} (h0 : 0 ≤ a) (h : a * a ≤ n) : a ≤ n := by
  rcases Int.lt_or_le 0 a with q | q
  · have := Int.mul_le_mul (show 1 ≤ a by omega) (Int.le_refl a) h0 h0
    omega
  · have e : a = 0 := by omega
    rw [e] at h
    omega
theorem small_size {n : Nat} (h : n ≤ 10000000) : n < sizeLine := by rw [PySem.sizeLine_eq]; omega
theorem iabs (i : Int) : (if i < 0 then -i else i) = (i.natAbs : Int) := by
  split <;> omega

section
variable {P : Program} {w : World} {K : PySem.W.Frag} {mg : Str → Option Value} {base : Heap}
abbrev s_root : Stmt := top 9
theorem sc_root : FnScope ["n", "k", "bits", "half"] ["n", "k"] (defScope s_root) := ⟨rfl, rfl, rfl, by decide +kernel, rfl, by decide +kernel, by decide +kernel⟩

def spRoot : Sp := fun vs H Q _ => ∃ n : Int, vs = [.int n, .int 2] ∧ 0 ≤ n ∧ n < BIG ∧ Q (.int (isq n)) H
theorem cal_root (D : Dn K mg "root" s_root ["n", "k"]) (B : Bl mg) : Cal P w K mg base "root" 1 ["n", "k"] spRoot := by
  refine D.cal sc_root (fun vs H Q E h => ?_) (fun f cdv A outer s H vs Q E hr h => ?_)
  · obtain ⟨n, rfl, _⟩ := h
    rfl
  · obtain ⟨n, rfl, h0, h1, q⟩ := h
    refine ⟨_, (pss_cons (ps_if (PW.pt (pw_or (pt_cmpR op_eq (pv 1) pe_int (nomark _)) (pw_or1 (pt_cmpR op_lt (pv 0) pe_int (nomark _))))) (pss_one (ps_ret (pv 0))) pss_nil)
  (pss_cons (ps_if (pt_cmpR op_eq (pv 1) pe_int (nomark _)) (pss_one (ps_ret (pe_callBfun cr_isqrt rfl B.isqrt (pa_cons (pv 0) pa_nil)))) pss_nil)
  pss_never)), ?_⟩
    walk_at "rd"
    rw [if_neg (by decide)]
    refine ite2 (fun h => ?_) (fun h => ⟨h0, Int.lt_trans h1 BIG_big, q⟩)
    rw [isq_self h0 h] at q
    exact q
abbrev s__law_root : Stmt := top 52
theorem sc__law_root : FnScope ["n", "low", "step"] ["n"] (defScope s__law_root) := ⟨rfl, rfl, rfl, by decide +kernel, rfl, by decide +kernel, by decide +kernel⟩

def spLawRoot : Sp := fun vs H Q _ => ∃ n : Int, vs = [.int n] ∧ 0 ≤ n ∧ n < BIG ∧ Q (.int (isq n)) H
theorem half_pow {j : Nat} : (2 ^ (j + 1) : Int) / 2 = 2 ^ j := by
  rw [Int.pow_succ, Int.mul_ediv_cancel _ (by decide)]
theorem cal_law_root (D : Dn K mg "_law_root" s__law_root ["n"]) (B : Bl mg) : Cal P w K mg base "_law_root" 1 ["n"] spLawRoot := by
  refine D.cal sc__law_root (fun vs H Q E h => ?_) (fun f cdv A outer s H vs Q E hr h => ?_)
  · obtain ⟨n, rfl, _⟩ := h
    rfl
  · obtain ⟨n, rfl, h0, h1, q⟩ := h
    have hB := BIG_pos
    refine ⟨_, (pss_cons (ps_if (pt_cmpR op_lt (pv 0) pe_int (nomark _)) (pss_one (ps_ret (pv 0))) pss_nil)
  (pss_cons (ps_set (i := 1) sc__law_root.nd rfl (Or.inl rfl) pe_int)
  (pss_cons (ps_while PassesOwn.never (pt_cmpR op_le (pe_op op_mulI (pv 1) (pv 1)) (pv 0) (nomark _)) (pss_one (ps_set (i := 1) sc__law_root.nd rfl (Or.inl rfl) (pe_op op_mulI pe_int (pv 1)))))
  (pss_cons (ps_set (i := 2) sc__law_root.nd rfl (Or.inl rfl) (pv 1))
  (pss_cons (ps_set (i := 1) sc__law_root.nd rfl (Or.inl rfl) pe_int)
  (pss_cons (ps_while PassesOwn.never (pt_cmpR op_gt (pv 2) pe_int (nomark _)) (pss_cons (ps_if (pt_cmpR op_le (pe_op op_mulI (pe_op op_add (pv 1) (pv 2)) (pe_op op_add (pv 1) (pv 2))) (pv 0) (nomark _)) (pss_one (ps_set (i := 1) sc__law_root.nd rfl (Or.inl rfl) (pe_op op_add (pv 1) (pv 2)))) pss_nil)
  (pss_one (ps_set (i := 2) sc__law_root.nd rfl (Or.inl rfl) (pe_op op_fdivW (pv 2) pe_int)))))
  (pss_one (ps_ret (pv 1))))))))), ?_⟩
    walk_at "rd"
    refine ite2 (fun h => ?_) (fun hn2 => ?_)
    · rw [isq_self h0 h] at q
      exact q
    refine while_w (fun σ H' => ∃ (low : Int) (j : Nat), σ = [some (.int n), some (.int low), none] ∧ H' = H ∧ low = 2 ^ j ∧ low ≤ 2 * n)
      (fun σ _ => match σ with | [_, some (.int low), _] => (2 * n - low).toNat | _ => 0) ⟨1, 0, rfl, rfl, rfl, by omega⟩ ?_
    rintro σ H' ⟨low, j, rfl, rfl, hl, hlb⟩ N hN
    have hpos : 0 < low := by rw [hl]; exact Int.pow_pos (by decide)
    have mo : IntMulOk low low := mulBig (by omega) (by omega) (by omega) (by omega)
    refine ⟨decide (low * low ≤ n), fun Q' q' => ?_, fun hb => ?_, fun hb => ?_⟩
    · walk_at "rd"
      exact ⟨mo, q'⟩
    · have hle := of_decide_eq_true hb
      have hln := low_le (by omega) hle
      walk_at "rd"
      refine ⟨mulL (by decide), hN _ _ ⟨2 * low, j + 1, rfl, rfl, by rw [hl, Int.pow_succ]; omega, by omega⟩ ?_⟩
      show (2 * n - 2 * low).toNat < (2 * n - low).toNat
      omega
    · have hgt : n < low * low := by
        have := of_decide_eq_false hb
        omega
      walk_at "rd"
      refine while_w (fun σ H₁ => ∃ (lo st : Int), σ = [some (.int n), some (.int lo), some (.int st)] ∧ H₁ = H' ∧ 0 ≤ lo ∧ lo * lo ≤ n ∧ st ≤ 2 * n ∧
          ((∃ i : Nat, st = 2 ^ i ∧ n < (lo + 2 * st) * (lo + 2 * st)) ∨ (st = 0 ∧ n < (lo + 1) * (lo + 1))))
        (fun σ _ => match σ with | [_, _, some (.int st)] => st.toNat | _ => 0) ⟨0, low, rfl, rfl, by omega, by omega, hlb, .inl ⟨j, hl, ?_⟩⟩ ?_
      · have : low * low ≤ (0 + 2 * low) * (0 + 2 * low) := Int.mul_le_mul (by omega) (by omega) (by omega) (by omega)
        omega
      rintro σ H₁ ⟨lo, st, rfl, rfl, hlo, hll, hst, hi⟩ N hN
      have hlon := low_le hlo hll
      refine ⟨decide (0 < st), fun Q' q' => ?_, fun hb => ?_, fun hb => ?_⟩
      · walk_at "rd"
        exact q'
      · have hp := of_decide_eq_true hb
        rcases hi with ⟨i, rfl, hu⟩ | ⟨e, _⟩
        · have half : ∀ lo' : Int, 0 ≤ lo' → lo' * lo' ≤ n → n < (lo' + 2 ^ i) * (lo' + 2 ^ i) → N [some (V.int n), some (V.int lo'), some (V.int (2 ^ i / 2))] H₁ := by
            intro lo' g1 g2 g3
            refine hN _ _ ⟨lo', 2 ^ i / 2, rfl, rfl, g1, g2, by omega, ?_⟩ (by show (2 ^ i / 2 : Int).toNat < (2 ^ i : Int).toNat; omega)
            cases i with
            | zero => exact .inr ⟨by decide, g3⟩
            | succ i =>
              refine .inl ⟨i, half_pow, ?_⟩
              rw [half_pow]
              rw [Int.pow_succ] at g3
              rw [show 2 * (2 : Int) ^ i = 2 ^ i * 2 by omega]
              exact g3
          have mo2 : IntMulOk (lo + 2 ^ i) (lo + 2 ^ i) := mulBig (by omega) (by omega) (by omega) (by omega)
          walk_at "rd"
          refine ⟨mo2, ite2 (fun c => ⟨⟨by decide, by decide +kernel⟩, ?_⟩) (fun c => ⟨⟨by decide, by decide +kernel⟩, ?_⟩)⟩
          · refine half (lo + 2 ^ i) (by omega) c ?_
            rw [show lo + 2 ^ i + 2 ^ i = lo + 2 * 2 ^ i by omega]
            exact hu
          · exact half lo hlo hll (by omega)
        · omega
      · have hp := of_decide_eq_false hb
        walk_at "rd"
        rcases hi with ⟨i, rfl, hu⟩ | ⟨e, hu⟩
        · exact absurd (Int.pow_pos (by decide) : (0 : Int) < 2 ^ i) hp
        · rw [isq_uniq hlo hll hu] at q
          exact q
end

/-! ### discriminants -/
def sqB (n : Int) : Bool := decide (0 ≤ n ∧ isq n * isq n = n)
def discB (n : Int) : Bool := decide (n % 4 = 0 ∨ n % 4 = 1) && !sqB n
theorem isq_neg {n : Int} (h : n < 0) : sqB n = false := decide_eq_false fun z => by omega
theorem isq_big {n : Int} (h0 : 0 ≤ n) (h : n < BIG) : (isq n).natAbs < 2 ^ 3004 := by
  have a := low_le (isq_nn n) (isq_le h0)
  have b := isq_nn n
  have c := BIG_pos
  exact bigAbs (by omega) (by omega)
section
variable {P : Program} {w : World} {K : PySem.W.Frag} {mg : Str → Option Value} {base : Heap} {CM CR : Addr}
abbrev s_is_square : Stmt := top 12
theorem sc_is_square : FnScope ["n"] ["n"] (defScope s_is_square) := ⟨rfl, rfl, rfl, by decide +kernel, rfl, by decide +kernel, by decide +kernel⟩

def spSq : Sp := fun vs H Q _ => ∃ n : Int, vs = [.int n] ∧ n < BIG ∧ Q (.bl (sqB n)) H
theorem cal_is_square (D : Dn K mg "is_square" s_is_square ["n"]) (B : Bl mg) : Cal P w K mg base "is_square" 1 ["n"] spSq := by
  refine D.cal sc_is_square (fun vs H Q E h => ?_) (fun f cdv A outer s H vs Q E hr h => ?_)
  · obtain ⟨n, rfl, _⟩ := h
    rfl
  · obtain ⟨n, rfl, h1, q⟩ := h
    refine ⟨_, (pss_one (ps_ret (pe_and (pe_cmpR op_ge (pv 0) pe_int (nomark _)) (pe_one (pe_cmpR op_eq (pe_op op_powI (pe_callBfun cr_isqrt rfl B.isqrt (pa_cons (pv 0) pa_nil)) pe_int) (pv 0) (nomark _)))))), ?_⟩
    walk_at "rd"
    refine ite2 (fun h0 => ⟨h0, Int.lt_trans h1 BIG_big, powI (n := 3004) (isq_big h0 h1) (by decide) (by decide) (by decide), ?_⟩) (fun h0 => ?_)
    · have e : decide (isq n ^ (2 : Int).toNat = n) = sqB n := by
        unfold sqB
        rw [show (2 : Int).toNat = 2 from rfl, Int.pow_succ, Int.pow_succ, Int.pow_zero, Int.one_mul]
        by_cases c : isq n * isq n = n
        · rw [decide_eq_true c, decide_eq_true ⟨h0, c⟩]
        · rw [decide_eq_false c, decide_eq_false fun z => c z.2]
      show Q (.bl (decide (isq n ^ (2 : Int).toNat = n))) H
      rw [e]
      exact q
    · rw [isq_neg (by omega)] at q
      exact q
abbrev s_is_discriminant : Stmt := top 18
theorem sc_is_discriminant : FnScope ["value"] ["value"] (defScope s_is_discriminant) := ⟨rfl, rfl, rfl, by decide +kernel, rfl, by decide +kernel, by decide +kernel⟩

/-- no integer, or one that is no discriminant -/
def NotD (K : PySem.W.Frag) (H : Hp) (v : V) : Prop := (∃ T, TyX K H v (.type T) ∧ T ∈ kinds ∧ (T == "int") = false) ∨ ∃ n : Int, v = .int n ∧ n < BIG ∧ discB n = false
def spDisc (K : PySem.W.Frag) : Sp := fun vs H Q _ => ∃ v : V, vs = [v] ∧ ((NotD K H v ∧ ∀ H', Same H H' → Q (.bl false) H') ∨ ∃ n : Int, v = .int n ∧ n < BIG ∧ discB n = true ∧ ∀ H', Same H H' → Q (.bl true) H')
theorem in01 (n : Int) : inV (.int (n % 4)) [V.int 0, V.int 1] = decide (n % 4 = 0 ∨ n % 4 = 1) := by
  have e1 : inV (.int (n % 4)) [V.int 0, V.int 1] = ((0 : Int) == n % 4 || ((1 : Int) == n % 4 || false)) := rfl
  rw [e1]
  by_cases c1 : n % 4 = 0
  · simp [c1]
  · by_cases c2 : n % 4 = 1
    · simp [c2]
    · have d1 : ¬ (0 : Int) = n % 4 := fun z => c1 z.symm
      have d2 : ¬ (1 : Int) = n % 4 := fun z => c2 z.symm
      simp [c1, c2, d1, d2]
theorem cal_is_disc (D : Dn K mg "is_discriminant" s_is_discriminant ["value"]) (B : Bl mg) (c_is_integer : Cal P w K mg base "is_integer" 1 ["value"] (spInt K)) (c_is_square : Cal P w K mg base "is_square" 1 ["n"] spSq) :
    Cal P w K mg base "is_discriminant" 2 ["value"] (spDisc K) := by
  refine D.cal sc_is_discriminant (fun vs H Q E h => ?_) (fun f cdv A outer s H vs Q E hr h => ?_)
  · obtain ⟨v, rfl, _⟩ := h
    rfl
  · obtain ⟨v, rfl, h⟩ := h
    refine ⟨_, (pss_one (ps_ret (pe_and (pe_cal c_is_integer (hr.mono (by decide)) rfl (pa_cons (pv 0) pa_nil)) (pe_and (pe_cmpR op_in_seq (pe_op op_mod (pv 0) pe_int) (pe_tup (pa_cons pe_int (pa_cons pe_int pa_nil))) (by rfl)) (pe_one (pe_not (pe_cal c_is_square (hr.mono (by decide)) rfl (pa_cons (pv 0) pa_nil)))))))), ?_⟩
    walk_at "rd"
    have go : ∀ n : Int, n < BIG → (∀ H', Same H H' → Q (.bl (discB n)) H') → spInt K [.int n] H (fun x H1 => ∃ c, x = V.bl c ∧ if c = true then (0 < (4 : Int) ∧ 2 ≤ sizeLine ∧ ∀ p, H1 p = none → rIn K false (V.int (n % 4)) (V.ref p) (upd H1 p (HO.tup [V.int 0, V.int 1])) fun x H' => ∃ c, x = V.bl c ∧ if c = true then spSq [V.int n] H' (fun x H1 => ∃ c, x = V.bl c ∧ Q (V.bl !c) H1) E0 else Q (V.bl false) H') else Q (V.bl false) H1) E0 := by
      intro n hn q
      refine ⟨.int n, "int", rfl, .base (.int n), by decide, true, rfl, ?_⟩
      rw [if_pos rfl]
      refine ⟨by decide, by decide, fun p np => ⟨p, _, rfl, .inr (SqT.of upd_same), rfl, rfl, inV (.int (n % 4)) [V.int 0, V.int 1], rfl, ?_⟩⟩
      have s1 : Same H (upd H p (.tup [V.int 0, V.int 1])) := same_upd np
      have q1 := q _ s1
      rw [in01]
      unfold discB at q1
      refine ite2 (fun c => ?_) (fun c => ?_)
      · rw [c, Bool.true_and] at q1
        exact ⟨n, rfl, hn, _, rfl, q1⟩
      · rw [Bool.not_eq_true] at c
        rw [c, Bool.false_and] at q1
        exact q1
    rcases h with ⟨⟨T, ty, hT, hi⟩ | ⟨n, rfl, hn, hd⟩, q⟩ | ⟨n, rfl, hn, hd, q⟩
    · refine ⟨v, T, rfl, ty, hT, false, by rw [hi], ?_⟩
      rw [if_neg Bool.false_ne_true]
      exact q H (Same.refl H)
    · have g := go n hn (fun H' s => by rw [hd]; exact q H' s)
      walk_at "rd"
      exact g
    · have g := go n hn (fun H' s => by rw [hd]; exact q H' s)
      walk_at "rd"
      exact g
end

/-! ### rows and forms recognized -/
section
variable {P : Program} {w : World} {K : PySem.W.Frag} {mg : Str → Option Value} {base : Heap} {CM CR : Addr}
/-- the kinds of a row's items, now and later -/
def Its (K : PySem.W.Frag) (H : Hp) (xs : List V) (ts : List String) : Prop := ts.length = xs.length ∧ ∀ (i : Nat) (x : V) (t : String), xs[i]? = some x → ts[i]? = some t → (∀ H', Same H H' → TyX K H' x (.type t)) ∧ t ∈ kinds
/-- no tuple -/
def NoTup (K : PySem.W.Frag) (H : Hp) (v : V) : Prop := ∃ T, TyX K H v (.type T) ∧ T ∈ kinds ∧ (T == "tuple") = false
abbrev s_is_row : Stmt := top 14
theorem sc_is_row : FnScope ["value", "n", "item"] ["value", "n"] (defScope s_is_row) := ⟨rfl, rfl, rfl, by decide +kernel, rfl, by decide +kernel, by decide +kernel⟩

def spRow (K : PySem.W.Frag) : Sp := fun vs H Q _ => ∃ (v : V) (n : Nat), vs = [v, .int (n : Int)] ∧
  ((NoTup K H v ∧ Q (.bl false) H) ∨
   ∃ (p : Addr) (xs : List V) (ts : List String), v = .ref p ∧ H p = some (.tup xs) ∧ Its K H xs ts ∧ xs.length < 1000 ∧ ∀ H', Same H H' → Q (.bl (decide (xs.length = n) && ts.all (· == "int"))) H')
theorem cal_row (D : Dn K mg "is_row" s_is_row ["value", "n"]) (B : Bl mg) (c_is_integer : Cal P w K mg base "is_integer" 1 ["value"] (spInt K)) : Cal P w K mg base "is_row" 2 ["value", "n"] (spRow K) := by
  refine D.cal sc_is_row (fun vs H Q E h => ?_) (fun f cdv A outer s H vs Q E hr h => ?_)
  · obtain ⟨v, n, rfl, _⟩ := h
    rfl
  · obtain ⟨v, n, rfl, h⟩ := h
    refine ⟨_, (pss_one (ps_ret (pe_and (pe_callB call_isi rfl B.isinstance (by decide +kernel) (pa_cons (pv 0) (pa_cons (pe_bltn (v := .ty "tuple") rfl B.tuple boot_tuple rfl) pa_nil))) (pe_and (pe_cmpR op_eq (pe_callB cr_lenS rfl B.len (by decide +kernel) (pa_cons (pv 0) pa_nil)) (pv 1) (nomark _)) (pe_one (pe_callB (cr_all rfl) rfl B.all (by decide +kernel) (pa_cons (pe_lc (own := [("item", 2)]) rfl sc_is_row.nd (pi_tup (pv 0)) (blkOk_by (N := ["value", "n", "item"]) (sc := defScope s_is_row) (own := [("item", 2)]) (by decide +kernel)) (fun _ _ _ _ _ => (pg_name (i := 2) sc_is_row.nd rfl (Or.inl rfl))) (fun _ _ _ _ _ => pts_nil) (fun _ _ _ _ _ => (pe_cal c_is_integer (hr.mono (by decide)) rfl (pa_cons (pv 2) pa_nil)))) pa_nil))))))), ?_⟩
    walk_at "rd"
    rcases h with ⟨⟨T, ty, hT, hi⟩, q⟩ | ⟨p, xs, ts, rfl, hp, ⟨hl, hty⟩, hx, q⟩
    · refine isi_mk ty (kit_k hT (by simp)) ⟨false, ?_, ?_⟩
      · rw [hi, show ("tuple" == "int") = false by decide, Bool.and_false, Bool.or_false]
      rw [if_neg Bool.false_ne_true]
      exact q
    · refine isi_mk (.base (.tup hp)) (b := true) (by decide +kernel) ⟨true, rfl, ?_⟩
      rw [if_pos rfl]
      refine ⟨xs.length, .inr ⟨_, SqT.of hp, rfl⟩, ite2 (fun c => ?_) (fun c => ?_)⟩
      · have hc : xs.length = n := Int.ofNat_inj.mp c
        refine ⟨p, rfl, ⟨_, SqT.of hp⟩, LcT.w (xs := xs) (fun i D zs H3 => zs = ((ts.take i).map (· == "int")).map V.bl ∧ i ≤ xs.length ∧ Same H H3 ∧ H3 D = some (.lst zs) ∧ H D = none) (fun D nD => ⟨rfl, Nat.zero_le _, same_upd nD, upd_same, nD⟩) ?_ ?_ ?_⟩
        · rintro D i zs H3 _ ⟨_, _, sm, _, _⟩
          exact SqT.of (sm _ _ hp)
        · rintro D i x zs H3 hv ⟨rfl, hi, sm, hD, nD⟩ N hN
          have hix : i < xs.length := (List.getElem?_eq_some_iff.mp hv).1
          obtain ⟨t, ht⟩ : ∃ t, ts[i]? = some t := ⟨ts[i]'(by omega), List.getElem?_eq_getElem (by omega)⟩
          obtain ⟨ty, hk⟩ := hty i x t hv ht
          walk_at "rd"
          refine ⟨x, t, rfl, ty _ sm, hk, _, hD, ?_, hN _ _ ⟨?_, by omega, same_at sm nD, upd_same, nD⟩⟩
          · rw [List.length_map, List.length_map, List.length_take]
            exact small_size (by omega)
          · rw [List.take_add_one, ht, List.map_append, List.map_append]
            rfl
        · rintro D zs H3 nD ⟨rfl, _, sm, hD, _⟩
          rw [← hl, List.take_length] at hD
          refine ⟨D, rfl, _, SqL.of hD, ?_⟩
          have q' := q _ sm
          rw [decide_eq_true hc, Bool.true_and] at q'
          rw [List.all_map]
          exact q'
      · have q' := q _ (Same.refl H)
        rw [decide_eq_false (fun z => c (by rw [z])), Bool.false_and] at q'
        exact q'
abbrev s_is_large : Stmt := top 20
theorem sc_is_large : FnScope ["f", "item"] ["f"] (defScope s_is_large) := ⟨rfl, rfl, rfl, by decide +kernel, rfl, by decide +kernel, by decide +kernel⟩

def B60 : Int := 1000000000000000000000000000000000000000000000000000000000000
def lgB (a b c : Int) : Bool := ([a, b, c].map fun i : Int => decide (B60 ≤ (i.natAbs : Int))).any id
def spLarge : Sp := fun vs H Q _ => ∃ (p : Addr) (a b c : Int), vs = [.ref p] ∧ H p = some (.tup [.int a, .int b, .int c]) ∧ ∀ H', Same H H' → Q (.bl (lgB a b c)) H'
theorem cal_large (D : Dn K mg "is_large" s_is_large ["f"]) (B : Bl mg) : Cal P w K mg base "is_large" 1 ["f"] spLarge := by
  refine D.cal sc_is_large (fun vs H Q E h => ?_) (fun f cdv A outer s H vs Q E hr h => ?_)
  · obtain ⟨p, a, b, c, rfl, _⟩ := h
    rfl
  · obtain ⟨p, a, b, c, rfl, hp, q⟩ := h
    refine ⟨_, (pss_one (ps_ret (pe_callB (cr_any rfl) rfl B.any (by decide +kernel) (pa_cons (pe_lc (own := [("item", 1)]) rfl sc_is_large.nd (pi_tup (pv 0)) (blkOk_by (N := ["f", "item"]) (sc := defScope s_is_large) (own := [("item", 1)]) (by decide +kernel)) (fun _ _ _ _ _ => (pg_name (i := 1) sc_is_large.nd rfl (Or.inl rfl))) (fun _ _ _ _ _ => pts_nil) (fun _ _ _ _ _ => (pe_cmpR op_ge (pe_callB call_abs rfl B.abs (by decide +kernel) (pa_cons (pv 1) pa_nil)) (pe_glob (v := .int 1000000000000000000000000000000000000000000000000000000000000) rfl B.c_ITEM_BOUND.choose_spec ⟨_, rfl⟩) (nomark _)))) pa_nil)))), ?_⟩
    walk_at "rd"
    refine ⟨⟨_, SqT.of hp⟩, LcT.w (xs := ([a, b, c] : List Int).map V.int) (fun i D zs H3 => zs = ((([a, b, c] : List Int).take i).map fun i : Int => decide (B60 ≤ (i.natAbs : Int))).map V.bl ∧ Same H H3 ∧ H3 D = some (.lst zs) ∧ H D = none) (fun D nD => ⟨rfl, same_upd nD, upd_same, nD⟩) ?_ ?_ ?_⟩
    · rintro D i zs H3 _ ⟨_, sm, _, _⟩
      exact SqT.of (sm _ _ hp)
    · rintro D i x zs H3 hv ⟨rfl, sm, hD, nD⟩ N hN
      rw [List.getElem?_map] at hv
      obtain ⟨n, hn, rfl⟩ := Option.map_eq_some_iff.mp hv
      have hi : i < 3 := (List.getElem?_eq_some_iff.mp hn).1
      walk_at "rd"
      refine ⟨_, hD, ?_, hN _ _ ⟨?_, same_at sm nD, upd_same, nD⟩⟩
      · rw [List.length_map, List.length_map, List.length_take]
        exact small_size (by omega)
      · rw [List.take_add_one, hn, List.map_append, List.map_append, iabs]
        rfl
    · rintro D zs H3 nD ⟨rfl, sm, hD, _⟩
      exact ⟨D, rfl, _, SqL.of hD, q _ sm⟩
abbrev s_told_discriminant : Stmt := top 23
theorem sc_told_discriminant : FnScope ["f", "a", "b", "c"] ["f"] (defScope s_told_discriminant) := ⟨rfl, rfl, rfl, by decide +kernel, rfl, by decide +kernel, by decide +kernel⟩

def spTDisc : Sp := fun vs H Q _ => ∃ (p : Addr) (a b c : Int), vs = [.ref p] ∧ H p = some (.tup [.int a, .int b, .int c]) ∧ IntMulOk b b ∧ IntMulOk (4 * a) c ∧ Q (.int (b * b - 4 * a * c)) H
theorem cal_tdisc (D : Dn K mg "told_discriminant" s_told_discriminant ["f"]) (B : Bl mg) : Cal P w K mg base "told_discriminant" 1 ["f"] spTDisc := by
  refine D.cal sc_told_discriminant (fun vs H Q E h => ?_) (fun f cdv A outer s H vs Q E hr h => ?_)
  · obtain ⟨p, a, b, c, rfl, _⟩ := h
    rfl
  · obtain ⟨p, a, b, c, rfl, hp, m1, m2, q⟩ := h
    refine ⟨_, (pss_cons (ps_asg (pv 0) (pg_tup rfl (pgs_cons (pg_name (i := 1) sc_told_discriminant.nd rfl (Or.inl rfl)) (pgs_cons (pg_name (i := 2) sc_told_discriminant.nd rfl (Or.inl rfl)) (pgs_cons (pg_name (i := 3) sc_told_discriminant.nd rfl (Or.inl rfl)) pgs_nil)))))
  (pss_one (ps_ret (pe_op op_sub (pe_op op_mulI (pv 2) (pv 2)) (pe_op op_mulI (pe_op op_mulI pe_int (pv 1)) (pv 3)))))), ?_⟩
    walk_at "rd"
    exact ⟨_, SqT.of hp, rfl, _, _, rfl, _, _, rfl, _, _, rfl, rfl, b, rfl, b, rfl, m1, a, rfl, mulL (by decide), c, rfl, m2, q⟩
abbrev s_is_form : Stmt := top 19
theorem sc_is_form : FnScope ["value", "D"] ["value"] (defScope s_is_form) := ⟨rfl, rfl, rfl, by decide +kernel, rfl, by decide +kernel, by decide +kernel⟩

def dsc (a b c : Int) : Int := b * b - 4 * a * c
def formB (a b c : Int) : Bool := !lgB a b c && (discB (dsc a b c) && decide (0 < dsc a b c ∨ 0 < a))
theorem lgB_no {a b c : Int} (h : lgB a b c = false) : (a.natAbs : Int) < B60 ∧ (b.natAbs : Int) < B60 ∧ (c.natAbs : Int) < B60 := by
  unfold lgB at h
  simp only [List.map_cons, List.map_nil, List.any_cons, List.any_nil, id, Bool.or_eq_false_iff, decide_eq_false_iff_not] at h
  omega
theorem B60_sq : 8 * (B60 * B60) < BIG ∧ 4 * B60 < 16 * BIG := by decide +kernel
theorem abs_mul {x y : Int} (hx : (x.natAbs : Int) < B60) (hy : (y.natAbs : Int) < B60) : ((x * y).natAbs : Int) ≤ B60 * B60 := by
  rw [Int.natAbs_mul, Int.natCast_mul]
  exact Int.mul_le_mul (by omega) (by omega) (by omega) (by unfold B60; omega)
theorem dsc_bd {a b c : Int} (ha : (a.natAbs : Int) < B60) (hb : (b.natAbs : Int) < B60) (hc : (c.natAbs : Int) < B60) : IntMulOk b b ∧ IntMulOk (4 * a) c ∧ dsc a b c < BIG ∧ -BIG < dsc a b c := by
  have e := B60_sq
  have hbb := abs_mul hb hb
  have hac := abs_mul ha hc
  have e2 : 4 * a * c = 4 * (a * c) := Int.mul_assoc _ _ _
  have bp := BIG_pos
  unfold dsc
  rw [e2]
  generalize b * b = u at *
  generalize a * c = v at *
  generalize B60 * B60 = q at *
  exact ⟨mulBig (by omega) (by omega) (by omega) (by omega), mulBig (by omega) (by omega) (by omega) (by omega), by omega, by omega⟩
/-- what is no row of three integers -/
def BadF (K : PySem.W.Frag) (H : Hp) (v : V) : Prop := NoTup K H v ∨ ∃ (p : Addr) (xs : List V) (ts : List String), v = .ref p ∧ H p = some (.tup xs) ∧ Its K H xs ts ∧ xs.length < 1000 ∧ (xs.length ≠ 3 ∨ ts.all (· == "int") = false)
theorem its3 {H : Hp} {a b c : Int} : Its K H [.int a, .int b, .int c] ["int", "int", "int"] := by
  refine ⟨rfl, fun i x t hx ht => ?_⟩
  match i, hx, ht with
  | 0, hx, ht => cases hx; cases ht; exact ⟨fun _ _ => .base (.int _), by decide⟩
  | 1, hx, ht => cases hx; cases ht; exact ⟨fun _ _ => .base (.int _), by decide⟩
  | 2, hx, ht => cases hx; cases ht; exact ⟨fun _ _ => .base (.int _), by decide⟩
  | n + 3, hx, ht => simp at hx
def spForm (K : PySem.W.Frag) : Sp := fun vs H Q _ => ∃ v : V, vs = [v] ∧ ((BadF K H v ∧ ∀ H', Same H H' → Q (.bl false) H') ∨ ∃ (p : Addr) (a b c : Int), v = .ref p ∧ H p = some (.tup [.int a, .int b, .int c]) ∧ ∀ H', Same H H' → Q (.bl (formB a b c)) H')
theorem cal_form (D : Dn K mg "is_form" s_is_form ["value"]) (B : Bl mg) (c_is_row : Cal P w K mg base "is_row" 2 ["value", "n"] (spRow K)) (c_is_large : Cal P w K mg base "is_large" 1 ["f"] spLarge) (c_told_discriminant : Cal P w K mg base "told_discriminant" 1 ["f"] spTDisc)
    (c_is_discriminant : Cal P w K mg base "is_discriminant" 2 ["value"] (spDisc K)) : Cal P w K mg base "is_form" 3 ["value"] (spForm K) := by
  refine D.cal sc_is_form (fun vs H Q E h => ?_) (fun f cdv A outer s H vs Q E hr h => ?_)
  · obtain ⟨v, rfl, _⟩ := h
    rfl
  · obtain ⟨v, rfl, h⟩ := h
    refine ⟨_, (pss_cons (ps_if (PW.pt (pw_or (pt_not (pt_val (pe_cal c_is_row (hr.mono (by decide)) rfl (pa_cons (pv 0) (pa_cons pe_int pa_nil))))) (pw_or1 (pt_val (pe_cal c_is_large (hr.mono (by decide)) rfl (pa_cons (pv 0) pa_nil)))))) (pss_one (ps_ret pe_bl)) pss_nil)
  (pss_cons (ps_set (i := 1) sc_is_form.nd rfl (Or.inl rfl) (pe_cal c_told_discriminant (hr.mono (by decide)) rfl (pa_cons (pv 0) pa_nil)))
  (pss_one (ps_ret (pe_and (pe_cal c_is_discriminant (hr.mono (by decide)) rfl (pa_cons (pv 1) pa_nil)) (pe_one (pe_or (pe_cmpR op_gt (pv 1) pe_int (nomark _)) (pe_one (pe_cmpR op_gt (pe_ix ix_tup (pv 0) pe_int (fun _ _ => rfl)) pe_int (nomark _)))))))))), ?_⟩
    walk_at "rd"
    rcases h with ⟨nt | ⟨p, xs, ts, rfl, hp, hI, hl, hb⟩, q⟩ | ⟨p, a, b, c, rfl, hp, q⟩
    · exact ⟨v, 3, rfl, .inl ⟨nt, false, rfl, by rw [if_pos (by decide)]; exact q _ (Same.refl H)⟩⟩
    · refine ⟨.ref p, 3, rfl, .inr ⟨p, xs, ts, rfl, hp, hI, hl, fun H' sm => ⟨_, rfl, ?_⟩⟩⟩
      have e : (decide (xs.length = 3) && ts.all (· == "int")) = false := by
        rcases hb with h | h
        · rw [decide_eq_false h, Bool.false_and]
        · rw [h, Bool.and_false]
      rw [e, if_pos (by decide)]
      exact q _ sm
    · refine ⟨.ref p, 3, rfl, .inr ⟨p, _, _, rfl, hp, its3, by show 3 < 1000; decide, fun H' sm => ⟨true, rfl, ?_⟩⟩⟩
      rw [if_neg (by decide)]
      refine ⟨p, a, b, c, rfl, sm _ _ hp, fun H2 sm2 => ⟨_, rfl, ?_⟩⟩
      have q1 := q _ (sm.trans sm2)
      unfold formB at q1
      refine ite2 (fun c1 => ?_) (fun c1 => ?_)
      · rw [c1, Bool.not_true, Bool.false_and] at q1
        exact q1
      · rw [Bool.not_eq_true] at c1
        obtain ⟨ba, bb, bc⟩ := lgB_no c1
        obtain ⟨m1, m2, d1, d2⟩ := dsc_bd ba bb bc
        have h2 := sm2 _ _ (sm _ _ hp)
        refine ⟨p, a, b, c, rfl, h2, m1, m2, .int (dsc a b c), rfl, ?_⟩
        have q2 : ∀ H3, Same H2 H3 → Q (.bl (discB (dsc a b c) && decide (0 < dsc a b c ∨ 0 < a))) H3 := fun H3 s3 => by
          have := q _ ((sm.trans sm2).trans s3)
          unfold formB at this
          rw [c1, Bool.not_false, Bool.true_and] at this
          exact this
        cases hd : discB (dsc a b c) with
        | false => exact .inl ⟨.inr ⟨_, rfl, d1, hd⟩, fun H3 s3 => ⟨false, rfl, by rw [if_neg (by decide)]; have := q2 _ s3; rw [hd, Bool.false_and] at this; exact this⟩⟩
        | true =>
          refine .inr ⟨_, rfl, d1, hd, fun H3 s3 => ⟨true, rfl, ?_⟩⟩
          have q3 := q2 _ s3
          rw [hd, Bool.true_and] at q3
          rw [if_pos rfl]
          refine ⟨_, rfl, ite2 (fun c2 => ?_) (fun c2 => ⟨p, rfl, _, SqT.of (s3 _ _ h2), _, rfl, a, rfl, ?_⟩)⟩
          · rw [decide_eq_true (.inl c2)] at q3
            exact q3
          · rw [show decide (0 < dsc a b c ∨ 0 < a) = decide (0 < a) from decide_eq_decide.mpr ⟨fun z => z.resolve_left c2, .inr⟩] at q3
            exact q3
/-- no form -/
def NotF (K : PySem.W.Frag) (H : Hp) (v : V) : Prop := BadF K H v ∨ ∃ (p : Addr) (a b c : Int), v = .ref p ∧ H p = some (.tup [.int a, .int b, .int c]) ∧ formB a b c = false
abbrev s_check_form : Stmt := top 21
theorem sc_check_form : FnScope ["f"] ["f"] (defScope s_check_form) := ⟨rfl, rfl, rfl, by decide +kernel, rfl, by decide +kernel, by decide +kernel⟩

def spChkF (K : PySem.W.Frag) (CM : Addr) : Sp := fun vs H Q E => ∃ v : V, vs = [v] ∧ ((NotF K H v ∧ ∀ H', Same H H' → E (.ref CM) none H') ∨ ∃ (p : Addr) (a b c : Int), v = .ref p ∧ H p = some (.tup [.int a, .int b, .int c]) ∧ formB a b c = true ∧ ∀ H', Same H H' → Q .non H')
theorem cal_chkf (D : Dn K mg "check_form" s_check_form ["f"]) (B : Bl mg) (c_is_form : Cal P w K mg base "is_form" 3 ["value"] (spForm K)) (e_E : ErrI P w K mg base CM CR) :
    CalX P w K mg base "check_form" 4 ["f"] (spChkF K CM) := by
  refine D.calX sc_check_form (fun vs H Q E h => ?_) (fun f cdv A outer s H vs Q E hr h => ?_)
  · obtain ⟨v, rfl, _⟩ := h
    rfl
  · obtain ⟨v, rfl, h⟩ := h
    refine ⟨_, (pss_one (ps_if (pt_not (pt_val (pe_cal c_is_form (hr.mono (by decide)) rfl (pa_cons (pv 0) pa_nil)))) (pss_one (ps_mal e_E.m rfl (takes_of rfl rfl rfl rfl) rfl)) pss_nil)), ?_⟩
    walk_at "rd"
    refine ⟨v, rfl, ?_⟩
    rcases h with ⟨hb | ⟨p, a, b, c, rfl, hp, hf⟩, q⟩ | ⟨p, a, b, c, rfl, hp, hf, q⟩
    · exact .inl ⟨hb, fun H' sm => ⟨false, rfl, by rw [if_pos (by decide)]; exact q H' sm⟩⟩
    · exact .inr ⟨p, a, b, c, rfl, hp, fun H' sm => ⟨_, rfl, by rw [hf, if_pos (by decide)]; exact q H' sm⟩⟩
    · exact .inr ⟨p, a, b, c, rfl, hp, fun H' sm => ⟨_, rfl, by rw [hf, if_neg (by decide)]; exact q H' sm⟩⟩
end
/-! ### forms moved by matrices, products of matrices -/
section
variable {P : Program} {w : World} {K : PySem.W.Frag} {mg : Str → Option Value} {base : Heap} {CM CR : Addr}
/-- small enough for any product here -/
def Sz (n : Nat) (x : Int) : Prop := x.natAbs < 2 ^ n
theorem Sz.mul {m n : Nat} {x y : Int} (h : Sz m x) (h' : Sz n y) : Sz (m + n) (x * y) := by
  unfold Sz at *
  rw [Int.natAbs_mul, Nat.pow_add]
  exact Nat.mul_lt_mul'' h h'
theorem Sz.add {m : Nat} {x y : Int} (h : Sz m x) (h' : Sz m y) : Sz (m + 1) (x + y) := by
  unfold Sz at *
  rw [Nat.pow_succ]
  omega
theorem Sz.sub {m : Nat} {x y : Int} (h : Sz m x) (h' : Sz m y) : Sz (m + 1) (x - y) := by
  unfold Sz at *
  rw [Nat.pow_succ]
  omega
theorem Sz.neg {m : Nat} {x : Int} (h : Sz m x) : Sz m (-x) := by
  unfold Sz at *
  omega
theorem Sz.le {m n : Nat} {x : Int} (h : Sz m x) (hmn : m ≤ n) : Sz n x := Nat.lt_of_lt_of_le h (Nat.pow_le_pow_right (by decide) hmn)
theorem Sz.ok {m n : Nat} {x y : Int} (h : Sz m x) (h' : Sz n y) (hm : m ≤ 450000) (hn : n ≤ 450000) : IntMulOk x y :=
  (wide_mul (a := 450000) (b := 450000) (h.le hm) (h'.le hn) (by decide) (by decide) (by decide)).ok
theorem sz_lit : Sz 3 2 ∧ Sz 3 4 := by unfold Sz; decide
abbrev valF (a b c x y : Int) : Int := a * x * x + b * x * y + c * y * y
abbrev midF (a b c p q r s : Int) : Int := 2 * a * p * q + b * (p * s + q * r) + 2 * c * r * s
abbrev s__law_value : Stmt := top 47
theorem sc__law_value : FnScope ["f", "x", "y"] ["f", "x", "y"] (defScope s__law_value) := ⟨rfl, rfl, rfl, by decide +kernel, rfl, by decide +kernel, by decide +kernel⟩

def spVal : Sp := fun vs H Q _ => ∃ (f : Addr) (a b c x y : Int), vs = [.ref f, .int x, .int y] ∧ H f = some (.tup [.int a, .int b, .int c]) ∧ Sz 100000 a ∧ Sz 100000 b ∧ Sz 100000 c ∧ Sz 100000 x ∧ Sz 100000 y ∧ Q (.int (valF a b c x y)) H
theorem cal_value (D : Dn K mg "_law_value" s__law_value ["f", "x", "y"]) (B : Bl mg) : Cal P w K mg base "_law_value" 1 ["f", "x", "y"] spVal := by
  refine D.cal sc__law_value (fun vs H Q E h => ?_) (fun f cdv A outer s H vs Q E hr h => ?_)
  · obtain ⟨f, a, b, c, x, y, rfl, _⟩ := h
    rfl
  · obtain ⟨f, a, b, c, x, y, rfl, hf, sa, sb, sc, sx, sy, q⟩ := h
    refine ⟨_, (pss_one (ps_ret (pe_op op_add (pe_op op_add (pe_op op_mulI (pe_op op_mulI (pe_ix ix_tup (pv 0) pe_int (fun _ _ => rfl)) (pv 1)) (pv 1)) (pe_op op_mulI (pe_op op_mulI (pe_ix ix_tup (pv 0) pe_int (fun _ _ => rfl)) (pv 1)) (pv 2))) (pe_op op_mulI (pe_op op_mulI (pe_ix ix_tup (pv 0) pe_int (fun _ _ => rfl)) (pv 2)) (pv 2))))), ?_⟩
    walk_at "rd"
    have F := SqT.of (K := K) hf
    exact ⟨_, F, _, rfl, a, rfl, sa.ok sx (by decide) (by decide), (sa.mul sx).ok sx (by decide) (by decide), _, F, _, rfl, b, rfl, sb.ok sx (by decide) (by decide), (sb.mul sx).ok sy (by decide) (by decide), _, F, _, rfl, c, rfl, sc.ok sy (by decide) (by decide), (sc.mul sy).ok sy (by decide) (by decide), q⟩
abbrev s__law_moved : Stmt := top 49
theorem sc__law_moved : FnScope ["f", "m", "p", "q", "r", "s", "middle"] ["f", "m"] (defScope s__law_moved) := ⟨rfl, rfl, rfl, by decide +kernel, rfl, by decide +kernel, by decide +kernel⟩

theorem atM {H : Hp} {r : Addr} {m : M4} (h : IsM H (.ref r) m) : ∃ r1 r2, H r = some (.tup [.ref r1, .ref r2]) ∧ H r1 = some (.tup [.int m.1.1, .int m.1.2]) ∧ H r2 = some (.tup [.int m.2.1, .int m.2.2]) := by
  obtain ⟨r', r1, r2, e, h1, h2, h3⟩ := h
  cases e
  exact ⟨r1, r2, h1, h2, h3⟩
def SzM (n : Nat) (m : M4) : Prop := Sz n m.1.1 ∧ Sz n m.1.2 ∧ Sz n m.2.1 ∧ Sz n m.2.2
abbrev movT (a b c : Int) (m : M4) : T3 := (valF a b c m.1.1 m.2.1, midF a b c m.1.1 m.1.2 m.2.1 m.2.2, valF a b c m.1.2 m.2.2)
def spMov : Sp := fun vs H Q _ => ∃ (f g : Addr) (a b c : Int) (m : M4), vs = [.ref f, .ref g] ∧ H f = some (.tup [.int a, .int b, .int c]) ∧ IsM H (.ref g) m ∧ Sz 90000 a ∧ Sz 90000 b ∧ Sz 90000 c ∧ SzM 90000 m ∧
  ∀ p, H p = none → Q (.ref p) (upd H p (.tup [.int (movT a b c m).1, .int (movT a b c m).2.1, .int (movT a b c m).2.2]))
theorem cal_moved (D : Dn K mg "_law_moved" s__law_moved ["f", "m"]) (B : Bl mg) (c__law_value : Cal P w K mg base "_law_value" 1 ["f", "x", "y"] spVal) : Cal P w K mg base "_law_moved" 2 ["f", "m"] spMov := by
  refine D.cal sc__law_moved (fun vs H Q E h => ?_) (fun f cdv A outer s H vs Q E hr h => ?_)
  · obtain ⟨f, g, a, b, c, m, rfl, _⟩ := h
    rfl
  · obtain ⟨f, g, a, b, c, m, rfl, hf, hM, sa, sb, sc, ⟨sp, sq, sr, ss⟩, q⟩ := h
    obtain ⟨r1, r2, h0, h1, h2⟩ := atM hM
    refine ⟨_, (pss_cons (ps_asg (pe_ix ix_tup (pv 1) pe_int (fun _ _ => rfl)) (pg_tup rfl (pgs_cons (pg_name (i := 2) sc__law_moved.nd rfl (Or.inl rfl)) (pgs_cons (pg_name (i := 3) sc__law_moved.nd rfl (Or.inl rfl)) pgs_nil))))
  (pss_cons (ps_asg (pe_ix ix_tup (pv 1) pe_int (fun _ _ => rfl)) (pg_tup rfl (pgs_cons (pg_name (i := 4) sc__law_moved.nd rfl (Or.inl rfl)) (pgs_cons (pg_name (i := 5) sc__law_moved.nd rfl (Or.inl rfl)) pgs_nil))))
  (pss_cons (ps_set (i := 6) sc__law_moved.nd rfl (Or.inl rfl) (pe_op op_add (pe_op op_add (pe_op op_mulI (pe_op op_mulI (pe_op op_mulI pe_int (pe_ix ix_tup (pv 0) pe_int (fun _ _ => rfl))) (pv 2)) (pv 3)) (pe_op op_mulI (pe_ix ix_tup (pv 0) pe_int (fun _ _ => rfl)) (pe_op op_add (pe_op op_mulI (pv 2) (pv 5)) (pe_op op_mulI (pv 3) (pv 4))))) (pe_op op_mulI (pe_op op_mulI (pe_op op_mulI pe_int (pe_ix ix_tup (pv 0) pe_int (fun _ _ => rfl))) (pv 4)) (pv 5))))
  (pss_one (ps_ret (pe_tup (pa_cons (pe_cal c__law_value (hr.mono (by decide)) rfl (pa_cons (pv 0) (pa_cons (pv 2) (pa_cons (pv 4) pa_nil)))) (pa_cons (pv 6) (pa_cons (pe_cal c__law_value (hr.mono (by decide)) rfl (pa_cons (pv 0) (pa_cons (pv 3) (pa_cons (pv 5) pa_nil)))) pa_nil))))))))), ?_⟩
    walk_at "rd"
    have F := SqT.of (K := K) hf
    have F0 := SqT.of (K := K) h0
    have F1 := SqT.of (K := K) h1
    have F2 := SqT.of (K := K) h2
    refine ⟨_, F0, _, rfl, _, rfl, _, F1, rfl, _, _, rfl, _, _, rfl, rfl, _, F0, _, rfl, _, rfl, _, F2, rfl, _, _, rfl, _, _, rfl, rfl, ?_⟩
    walk_at "rd"
    obtain ⟨s2, _⟩ := sz_lit
    exact ⟨_, F, _, rfl, a, rfl, s2.ok sa (by decide) (by decide), (s2.mul sa).ok sp (by decide) (by decide), ((s2.mul sa).mul sp).ok sq (by decide) (by decide), _, F, _, rfl, sp.ok ss (by decide) (by decide), sq.ok sr (by decide) (by decide), b, rfl, sb.ok ((sp.mul ss).add (sq.mul sr)) (by decide) (by decide), _, F, _, rfl, c, rfl, s2.ok sc (by decide) (by decide), (s2.mul sc).ok sr (by decide) (by decide), ((s2.mul sc).mul sr).ok ss (by decide) (by decide),
      f, a, b, c, _, _, rfl, hf, sa.le (by decide), sb.le (by decide), sc.le (by decide), sp.le (by decide), sr.le (by decide), f, a, b, c, _, _, rfl, hf, sa.le (by decide), sb.le (by decide), sc.le (by decide), sq.le (by decide), ss.le (by decide), by decide, fun p np => q p np⟩
abbrev s__law_product : Stmt := top 50
theorem sc__law_product : FnScope ["m", "n", "p", "q", "r", "s"] ["m", "n"] (defScope s__law_product) := ⟨rfl, rfl, rfl, by decide +kernel, rfl, by decide +kernel, by decide +kernel⟩

def mulM (m n : M4) : M4 := ((m.1.1 * n.1.1 + m.1.2 * n.2.1, m.1.1 * n.1.2 + m.1.2 * n.2.2), (m.2.1 * n.1.1 + m.2.2 * n.2.1, m.2.1 * n.1.2 + m.2.2 * n.2.2))
theorem mulM_sz {k l : Nat} {m n : M4} (h : SzM k m) (h' : SzM l n) : SzM (k + l + 1) (mulM m n) :=
  ⟨(h.1.mul h'.1).add (h.2.1.mul h'.2.2.1), (h.1.mul h'.2.1).add (h.2.1.mul h'.2.2.2), (h.2.2.1.mul h'.1).add (h.2.2.2.mul h'.2.2.1), (h.2.2.1.mul h'.2.1).add (h.2.2.2.mul h'.2.2.2)⟩
def spProd : Sp := fun vs H Q _ => ∃ (f g : Addr) (m n : M4), vs = [.ref f, .ref g] ∧ IsM H (.ref f) m ∧ IsM H (.ref g) n ∧ SzM 100000 m ∧ SzM 100000 n ∧ ∀ p H', Same H H' → H p = none → IsM H' (.ref p) (mulM m n) → Q (.ref p) H'
theorem cal_prod (D : Dn K mg "_law_product" s__law_product ["m", "n"]) (B : Bl mg) : Cal P w K mg base "_law_product" 1 ["m", "n"] spProd := by
  refine D.cal sc__law_product (fun vs H Q E h => ?_) (fun f cdv A outer s H vs Q E hr h => ?_)
  · obtain ⟨f, g, m, n, rfl, _⟩ := h
    rfl
  · obtain ⟨f, g, m, n, rfl, hm, hn, ⟨m1, m2, m3, m4⟩, ⟨n1, n2, n3, n4⟩, q⟩ := h
    obtain ⟨r1, r2, h0, h1, h2⟩ := atM hm
    obtain ⟨t1, t2, g0, g1, g2⟩ := atM hn
    refine ⟨_, (pss_cons (ps_asg (pe_ix ix_tup (pv 0) pe_int (fun _ _ => rfl)) (pg_tup rfl (pgs_cons (pg_name (i := 2) sc__law_product.nd rfl (Or.inl rfl)) (pgs_cons (pg_name (i := 3) sc__law_product.nd rfl (Or.inl rfl)) pgs_nil))))
  (pss_cons (ps_asg (pe_ix ix_tup (pv 0) pe_int (fun _ _ => rfl)) (pg_tup rfl (pgs_cons (pg_name (i := 4) sc__law_product.nd rfl (Or.inl rfl)) (pgs_cons (pg_name (i := 5) sc__law_product.nd rfl (Or.inl rfl)) pgs_nil))))
  (pss_one (ps_ret (pe_tup (pa_cons (pe_tup (pa_cons (pe_op op_add (pe_op op_mulI (pv 2) (pe_ix ix_tup (pe_ix ix_tup (pv 1) pe_int (fun _ _ => rfl)) pe_int (fun _ _ => rfl))) (pe_op op_mulI (pv 3) (pe_ix ix_tup (pe_ix ix_tup (pv 1) pe_int (fun _ _ => rfl)) pe_int (fun _ _ => rfl)))) (pa_cons (pe_op op_add (pe_op op_mulI (pv 2) (pe_ix ix_tup (pe_ix ix_tup (pv 1) pe_int (fun _ _ => rfl)) pe_int (fun _ _ => rfl))) (pe_op op_mulI (pv 3) (pe_ix ix_tup (pe_ix ix_tup (pv 1) pe_int (fun _ _ => rfl)) pe_int (fun _ _ => rfl)))) pa_nil))) (pa_cons (pe_tup (pa_cons (pe_op op_add (pe_op op_mulI (pv 4) (pe_ix ix_tup (pe_ix ix_tup (pv 1) pe_int (fun _ _ => rfl)) pe_int (fun _ _ => rfl))) (pe_op op_mulI (pv 5) (pe_ix ix_tup (pe_ix ix_tup (pv 1) pe_int (fun _ _ => rfl)) pe_int (fun _ _ => rfl)))) (pa_cons (pe_op op_add (pe_op op_mulI (pv 4) (pe_ix ix_tup (pe_ix ix_tup (pv 1) pe_int (fun _ _ => rfl)) pe_int (fun _ _ => rfl))) (pe_op op_mulI (pv 5) (pe_ix ix_tup (pe_ix ix_tup (pv 1) pe_int (fun _ _ => rfl)) pe_int (fun _ _ => rfl)))) pa_nil))) pa_nil))))))), ?_⟩
    have F0 := SqT.of (K := K) h0
    have F1 := SqT.of (K := K) h1
    have F2 := SqT.of (K := K) h2
    rw [CB.rd_seq]
    walk_at "rs"
    refine ⟨_, F0, _, rfl, _, rfl, _, F1, rfl, _, _, rfl, _, _, rfl, rfl, ?_⟩
    rw [CB.rd_seq]
    walk_at "rs"
    refine ⟨_, F0, _, rfl, _, rfl, _, F2, rfl, _, _, rfl, _, _, rfl, rfl, ?_⟩
    have G0 := SqT.of (K := K) g0
    have G1 := SqT.of (K := K) g1
    have G2 := SqT.of (K := K) g2
    refine ⟨_, G0, _, rfl, _, rfl, _, G1, _, rfl, _, rfl, m1.ok n1 (by decide) (by decide), _, G0, _, rfl, _, rfl, _, G2, _, rfl, _, rfl, m2.ok n3 (by decide) (by decide), _, G0, _, rfl, _, rfl, _, G1, _, rfl, _, rfl, m1.ok n2 (by decide) (by decide), _, G0, _, rfl, _, rfl, _, G2, _, rfl, _, rfl, m2.ok n4 (by decide) (by decide), by decide, fun p np => ?_⟩
    have st := same_upd (o := HO.tup [V.int (m.1.1 * n.1.1 + m.1.2 * n.2.1), V.int (m.1.1 * n.1.2 + m.1.2 * n.2.2)]) np
    have G0 := SqT.of (K := K) (st _ _ g0)
    have G1 := SqT.of (K := K) (st _ _ g1)
    have G2 := SqT.of (K := K) (st _ _ g2)
    refine ⟨_, G0, _, rfl, _, rfl, _, G1, _, rfl, _, rfl, _, rfl, m3.ok n1 (by decide) (by decide), _, G0, _, rfl, _, rfl, _, G2, _, rfl, _, rfl, _, rfl, m4.ok n3 (by decide) (by decide), _, G0, _, rfl, _, rfl, _, G1, _, rfl, _, rfl, _, rfl, m3.ok n2 (by decide) (by decide), _, G0, _, rfl, _, rfl, _, G2, _, rfl, _, rfl, _, rfl, m4.ok n4 (by decide) (by decide), by decide, fun p2 np2 => ⟨by decide, fun p3 np3 => ?_⟩⟩
    exact q p3 _ (((same_upd np).trans (same_upd np2)).trans (same_upd np3)) (((same_upd np).trans (same_upd np2)).free np3) ⟨p3, p, p2, rfl, upd_same, same_upd np3 _ _ (same_upd np2 _ _ upd_same), same_upd np3 _ _ upd_same⟩
def invM (m : M4) : M4 := ((m.2.2, -m.1.2), (-m.2.1, m.1.1))
def detM (m : M4) : Int := m.1.1 * m.2.2 - m.1.2 * m.2.1
theorem isM_kp {st : Addr} {H H' : Hp} {x : V} {m : M4} (s : Kp st H H') (h : IsM H x m) : IsM H' x m := by
  obtain ⟨r, r1, r2, q, e, e1, e2⟩ := h
  exact ⟨r, r1, r2, q, s.1 _ _ e, s.1 _ _ e1, s.1 _ _ e2⟩
theorem detM_mul {m n : M4} (h : detM m = 1) (h' : detM n = 1) : detM (mulM m n) = 1 := by
  obtain ⟨⟨a, b⟩, ⟨c, d⟩⟩ := m
  obtain ⟨⟨e, f⟩, ⟨g, i⟩⟩ := n
  simp only [detM, mulM] at *
  grind
theorem newM {H : Hp} {p1 p2 p3 : Addr} {a b c d : Int} (n1 : H p1 = none) (n2 : upd H p1 (.tup [.int a, .int b]) p2 = none) (n3 : upd (upd H p1 (.tup [.int a, .int b])) p2 (.tup [.int c, .int d]) p3 = none) :
    Same H (upd (upd (upd H p1 (.tup [.int a, .int b])) p2 (.tup [.int c, .int d])) p3 (.tup [.ref p1, .ref p2])) ∧ IsM (upd (upd (upd H p1 (.tup [.int a, .int b])) p2 (.tup [.int c, .int d])) p3 (.tup [.ref p1, .ref p2])) (.ref p3) ((a, b), (c, d)) :=
  ⟨((same_upd n1).trans (same_upd n2)).trans (same_upd n3), p3, p1, p2, rfl, upd_same, same_upd n3 _ _ (same_upd n2 _ _ upd_same), same_upd n3 _ _ upd_same⟩
end

/-! ### the mathematics: steps of indefinite forms, cycles -/
/-- s is the whole root of D, which is no square -/
def Rt (D s : Int) : Prop := 0 ≤ s ∧ s * s < D ∧ D < (s + 1) * (s + 1)
theorem sq_nn (n : Int) : 0 ≤ n * n := by
  rcases Int.le_total 0 n with z | z
  · exact Int.mul_nonneg z z
  · exact Int.mul_nonneg_of_nonpos_of_nonpos z z
theorem sq_abs (n : Int) : (n.natAbs : Int) * n.natAbs = n * n := Int.natAbs_mul_self
theorem sq_mono {x y : Int} (h0 : 0 ≤ x) (h : x ≤ y) : x * x ≤ y * y := Int.mul_le_mul h h h0 (by omega)
theorem abs_sq {x y : Int} (h : (x.natAbs : Int) ≤ y) : x * x ≤ y * y := by
  rw [← sq_abs x]
  exact sq_mono (by omega) h
theorem Rt.no {D s x : Int} (h : Rt D s) : x * x ≠ D := fun e => by
  obtain ⟨h0, h1, h2⟩ := h
  rw [← e, ← sq_abs x] at h1 h2
  rcases Int.lt_or_le s (x.natAbs : Int) with z | z
  · have := sq_mono (x := s + 1) (y := (x.natAbs : Int)) (by omega) (by omega)
    omega
  · have := sq_mono (x := (x.natAbs : Int)) (y := s) (by omega) z
    omega
theorem Rt.lt {D s x : Int} (h : Rt D s) (hx : (x.natAbs : Int) ≤ s) : x * x < D := by
  have := abs_sq hx
  have := h.2.1
  omega
def newB (s b c : Int) : Int := (if s > (c.natAbs : Int) then s else (c.natAbs : Int)) - ((if s > (c.natAbs : Int) then s else (c.natAbs : Int)) + b) % (2 * (c.natAbs : Int))
def newT (s b c : Int) : Int := (b + newB s b c) / (2 * c)
def stp (s : Int) (f : T3) : T3 := (f.2.2, newB s f.2.1 f.2.2, f.1 - f.2.1 * newT s f.2.1 f.2.2 + f.2.2 * newT s f.2.1 f.2.2 * newT s f.2.1 f.2.2)
def fits (s : Int) (f : T3) : Prop := 1 ≤ f.2.1 ∧ f.2.1 ≤ s ∧ s < 2 * (f.1.natAbs : Int) + f.2.1 ∧ 2 * (f.1.natAbs : Int) - f.2.1 ≤ s
instance (s : Int) (f : T3) : Decidable (fits s f) := by unfold fits; infer_instance
/-- the forms here -/
def Frm (D s : Int) (f : T3) : Prop := dsc f.1 f.2.1 f.2.2 = D ∧ Rt D s
theorem Frm.c {D s : Int} {f : T3} (h : Frm D s f) : f.2.2 ≠ 0 := fun z => by
  obtain ⟨e, r⟩ := h
  unfold dsc at e
  rw [z] at e
  exact r.no (x := f.2.1) (by omega)
theorem Frm.a {D s : Int} {f : T3} (h : Frm D s f) : f.1 ≠ 0 := fun z => by
  obtain ⟨e, r⟩ := h
  unfold dsc at e
  rw [z] at e
  exact r.no (x := f.2.1) (by omega)
theorem newB_bd {s b c : Int} (hc : c ≠ 0) (hs : 0 ≤ s) : (if s > (c.natAbs : Int) then s else (c.natAbs : Int)) - 2 * (c.natAbs : Int) < newB s b c ∧ newB s b c ≤ (if s > (c.natAbs : Int) then s else (c.natAbs : Int)) := by
  unfold newB
  generalize (if s > (c.natAbs : Int) then s else (c.natAbs : Int)) = top
  have h1 := Int.emod_nonneg (top + b) (show 2 * (c.natAbs : Int) ≠ 0 by omega)
  have h2 := Int.emod_lt_of_pos (top + b) (show 0 < 2 * (c.natAbs : Int) by omega)
  omega
theorem newT_eq {s b c : Int} (hc : c ≠ 0) : b + newB s b c = 2 * c * newT s b c := by
  have key : ∃ q, b + newB s b c = 2 * c * q := by
    unfold newB
    generalize (if s > (c.natAbs : Int) then s else (c.natAbs : Int)) = top
    have h := Int.mul_ediv_add_emod (top + b) (2 * (c.natAbs : Int))
    rcases Int.lt_or_le c 0 with z | z
    · refine ⟨-((top + b) / (2 * (c.natAbs : Int))), ?_⟩
      have e : 2 * (c.natAbs : Int) * ((top + b) / (2 * (c.natAbs : Int))) = 2 * c * -((top + b) / (2 * (c.natAbs : Int))) := by
        have : (c.natAbs : Int) = -c := by omega
        generalize (top + b) / (2 * (c.natAbs : Int)) = x
        rw [this]
        grind
      omega
    · refine ⟨(top + b) / (2 * (c.natAbs : Int)), ?_⟩
      have : (c.natAbs : Int) = c := by omega
      rw [this] at h ⊢
      omega
  obtain ⟨q, hq⟩ := key
  unfold newT
  rw [hq, Int.mul_ediv_cancel_left q (by omega)]
theorem stp_frm {D s : Int} {f : T3} (h : Frm D s f) : Frm D s (stp s f) := by
  have e := newT_eq (s := s) (b := f.2.1) h.c
  refine ⟨?_, h.2⟩
  rw [← h.1]
  obtain ⟨a, b, c⟩ := f
  unfold stp dsc
  simp only at e ⊢
  generalize newT s b c = t at *
  have : newB s b c = 2 * c * t - b := by omega
  rw [this]
  grind
theorem stp_mov {s : Int} {f : T3} (h : f.2.2 ≠ 0) : movT f.1 f.2.1 f.2.2 ((0, -1), (1, newT s f.2.1 f.2.2)) = stp s f := by
  have e := newT_eq (s := s) (b := f.2.1) h
  obtain ⟨a, b, c⟩ := f
  unfold stp
  simp only [movT, valF, midF] at e ⊢
  generalize newT s b c = t at *
  have : newB s b c = 2 * c * t - b := by omega
  rw [this, Prod.mk.injEq, Prod.mk.injEq]
  refine ⟨?_, ?_, ?_⟩ <;> grind
/-- four times the items' product -/
theorem Frm.prod {D s : Int} {f : T3} (h : Frm D s f) : 4 * (f.1 * f.2.2) = f.2.1 * f.2.1 - D := by
  have := h.1
  unfold dsc at this
  have e : 4 * f.1 * f.2.2 = 4 * (f.1 * f.2.2) := Int.mul_assoc _ _ _
  omega
theorem abs_mul' (x y : Int) : ((x * y).natAbs : Int) = (x.natAbs : Int) * (y.natAbs : Int) := by
  rw [Int.natAbs_mul, Int.natCast_mul]
/-- a great last item gets smaller -/
theorem stp_less {D s : Int} {f : T3} (h : Frm D s f) (hc : s < (f.2.2.natAbs : Int)) : 4 * ((stp s f).2.2.natAbs : Int) ≤ (f.2.2.natAbs : Int) := by
  have h' := (stp_frm h).prod
  have nb := newB_bd (b := f.2.1) h.c h.2.1
  rw [if_neg (by omega)] at nb
  have e1 : (stp s f).1 = f.2.2 := rfl
  have e2 : (stp s f).2.1 = newB s f.2.1 f.2.2 := rfl
  rw [e1, e2] at h'
  generalize (stp s f).2.2 = c' at *
  generalize newB s f.2.1 f.2.2 = n at *
  generalize f.2.2 = c at *
  obtain ⟨r0, r1, r2⟩ := h.2
  have s1 := abs_sq (x := n) (y := (c.natAbs : Int)) (by omega)
  have s2 := sq_mono (x := s + 1) (y := (c.natAbs : Int)) (by omega) (by omega)
  have s3 := sq_nn n
  have am := abs_mul' c c'
  have : 4 * ((c.natAbs : Int) * (c'.natAbs : Int)) ≤ (c.natAbs : Int) * (c.natAbs : Int) := by
    have := sq_nn s
    omega
  have e : (c.natAbs : Int) * (4 * (c'.natAbs : Int)) ≤ (c.natAbs : Int) * (c.natAbs : Int) := by
    have : (c.natAbs : Int) * (4 * (c'.natAbs : Int)) = 4 * ((c.natAbs : Int) * (c'.natAbs : Int)) := by grind
    omega
  exact Int.le_of_mul_le_mul_left e (by omega)
theorem le_div {k x y : Int} (hk : 0 < k) (h : k * x < k * y) : x < y := Int.lt_of_mul_lt_mul_left h (by omega)
/-- the step of a small last item -/
theorem stp_small {D s : Int} {f : T3} (h : Frm D s f) (hc : (f.2.2.natAbs : Int) ≤ s) : s + 1 - 2 * (f.2.2.natAbs : Int) ≤ (stp s f).2.1 ∧ (stp s f).2.1 ≤ s := by
  have nb := newB_bd (b := f.2.1) h.c h.2.1
  have e2 : (stp s f).2.1 = newB s f.2.1 f.2.2 := rfl
  rw [e2]
  by_cases z : s > (f.2.2.natAbs : Int)
  · rw [if_pos z] at nb
    omega
  · rw [if_neg z] at nb
    omega
theorem neg_prod {D s x y b : Int} (r : Rt D s) (hb : (b.natAbs : Int) ≤ s) (e : 4 * (x * y) = b * b - D) : 4 * ((x.natAbs : Int) * (y.natAbs : Int)) = D - b * b := by
  have l := r.lt hb
  have am := abs_mul' x y
  omega
/-- after a small last item: its next one is small, and two steps lead to a cycle -/
theorem small_next {D s : Int} {g : T3} (h : Frm D s g) (h1 : s + 1 - 2 * (g.1.natAbs : Int) ≤ g.2.1) (h2 : g.2.1 ≤ s) (ha : (g.1.natAbs : Int) ≤ s) (nf : ¬ fits s g) : (g.2.2.natAbs : Int) ≤ s ∧ fits s (stp s g) := by
  have ga := h.a
  have bn : (g.2.1.natAbs : Int) ≤ s := by omega
  have np := neg_prod h.2 bn h.prod
  have sm : (g.2.2.natAbs : Int) ≤ s → s + 1 - 2 * (g.2.2.natAbs : Int) ≤ (stp s g).2.1 ∧ (stp s g).2.1 ≤ s := fun q => stp_small h q
  have e1 : (stp s g).1 = g.2.2 := rfl
  have gc := h.c
  obtain ⟨r0, r1, r2⟩ := h.2
  unfold fits at nf ⊢
  rw [e1]
  generalize (stp s g).2.1 = b2 at *
  obtain ⟨a, b, c⟩ := g
  simp only at *
  have ma : 0 < (a.natAbs : Int) := by omega
  have d1 : D - b * b < (s + 1 - b) * (s + 1 + b) := by
    have : (s + 1 - b) * (s + 1 + b) = (s + 1) * (s + 1) - b * b := by grind
    omega
  -- 2 |c| < s + 1 + b
  have u1 : (s + 1 - b) * (s + 1 + b) ≤ (2 * (a.natAbs : Int)) * (s + 1 + b) := Int.mul_le_mul_of_nonneg_right (by omega) (by omega)
  have u2 : 2 * (c.natAbs : Int) < s + 1 + b := by
    refine le_div (k := 2 * (a.natAbs : Int)) (by omega) ?_
    have : 2 * (a.natAbs : Int) * (2 * (c.natAbs : Int)) = 4 * ((a.natAbs : Int) * (c.natAbs : Int)) := by grind
    omega
  refine ⟨by omega, ?_⟩
  have sm := sm (by omega)
  by_cases hb : b ≤ 0
  · omega
  · -- b > 0, so b < 2 |a| - s
    have hb2 : s + 1 + b ≤ 2 * (a.natAbs : Int) := by omega
    have v1 : (s + 1 + b) * (2 * (c.natAbs : Int)) ≤ (2 * (a.natAbs : Int)) * (2 * (c.natAbs : Int)) := Int.mul_le_mul_of_nonneg_right hb2 (by omega)
    have v2 : 2 * (c.natAbs : Int) < s + 1 - b := by
      refine le_div (k := s + 1 + b) (by omega) ?_
      have : 2 * (a.natAbs : Int) * (2 * (c.natAbs : Int)) = 4 * ((a.natAbs : Int) * (c.natAbs : Int)) := by grind
      have : (s + 1 + b) * (s + 1 - b) = (s + 1 - b) * (s + 1 + b) := Int.mul_comm _ _
      omega
    omega
/-- on a cycle -/
theorem fits_c {D s : Int} {f : T3} (h : Frm D s f) (hf : fits s f) : s - f.2.1 < 2 * (f.2.2.natAbs : Int) ∧ 2 * (f.2.2.natAbs : Int) ≤ s + f.2.1 ∧ 2 * (f.1.natAbs : Int) ≤ s + f.2.1 := by
  obtain ⟨f1, f2, f3, f4⟩ := hf
  have bn : (f.2.1.natAbs : Int) ≤ s := by omega
  have np := neg_prod h.2 bn h.prod
  have ga := h.a
  have gc := h.c
  obtain ⟨r0, r1, r2⟩ := h.2
  obtain ⟨a, b, c⟩ := f
  simp only at *
  have d1 : D - b * b < (s + 1 - b) * (s + 1 + b) := by
    have : (s + 1 - b) * (s + 1 + b) = (s + 1) * (s + 1) - b * b := by grind
    omega
  have d2 : (s - b) * (s + b) < D - b * b := by
    have : (s - b) * (s + b) = s * s - b * b := by grind
    omega
  have e : 2 * (a.natAbs : Int) * (2 * (c.natAbs : Int)) = 4 * ((a.natAbs : Int) * (c.natAbs : Int)) := by grind
  refine ⟨?_, ?_, by omega⟩
  · refine le_div (k := s + b) (by omega) ?_
    have w : 2 * (a.natAbs : Int) * (2 * (c.natAbs : Int)) ≤ (s + b) * (2 * (c.natAbs : Int)) := Int.mul_le_mul_of_nonneg_right (by omega) (by omega)
    have : (s + b) * (s - b) = (s - b) * (s + b) := Int.mul_comm _ _
    omega
  · have w : (s + 1 - b) * (2 * (c.natAbs : Int)) ≤ 2 * (a.natAbs : Int) * (2 * (c.natAbs : Int)) := Int.mul_le_mul_of_nonneg_right (by omega) (by omega)
    have : 2 * (c.natAbs : Int) < s + 1 + b := by
      refine le_div (k := s + 1 - b) (by omega) ?_
      omega
    omega
theorem emod_uniq {x y m : Int} (h : 0 < m) (h1 : -m < x - y) (h2 : x - y < m) (hd : ∃ q, x - y = m * q) : x = y := by
  obtain ⟨q, hq⟩ := hd
  have : q = 0 := by
    rcases Int.lt_trichotomy q 0 with z | z | z
    · have := Int.mul_le_mul_of_nonneg_left (show q ≤ -1 by omega) (show 0 ≤ m by omega)
      omega
    · exact z
    · have := Int.mul_le_mul_of_nonneg_left (show 1 ≤ q by omega) (show 0 ≤ m by omega)
      omega
  subst this
  omega
theorem abs_of (c t : Int) : ∃ q, 2 * c * t = 2 * (c.natAbs : Int) * q := by
  rcases Int.lt_or_le c 0 with z | z
  · refine ⟨-t, ?_⟩
    have : (c.natAbs : Int) = -c := by omega
    rw [this]
    grind
  · refine ⟨t, ?_⟩
    have : (c.natAbs : Int) = c := by omega
    rw [this]
theorem fits_stp {D s : Int} {f : T3} (h : Frm D s f) (hf : fits s f) : fits s (stp s f) := by
  obtain ⟨c1, c2, c3⟩ := fits_c h hf
  have gc := h.c
  have sm := stp_small h (by obtain ⟨f1, f2, _, _⟩ := hf; omega)
  have te := newT_eq (s := s) (b := f.2.1) h.c
  obtain ⟨q, hq⟩ := abs_of f.2.2 (newT s f.2.1 f.2.2)
  have e1 : (stp s f).1 = f.2.2 := rfl
  have e2 : (stp s f).2.1 = newB s f.2.1 f.2.2 := rfl
  obtain ⟨f1, f2, f3, f4⟩ := hf
  unfold fits
  rw [e1]
  rw [e2] at sm ⊢
  generalize newB s f.2.1 f.2.2 = n at *
  by_cases z : 2 * (f.2.2.natAbs : Int) ≤ s
  · omega
  · have : n = 2 * (f.2.2.natAbs : Int) - f.2.1 := by
      refine emod_uniq (m := 2 * (f.2.2.natAbs : Int)) (by omega) (by omega) (by omega) ⟨q - 1, ?_⟩
      have : 2 * (f.2.2.natAbs : Int) * (q - 1) = 2 * (f.2.2.natAbs : Int) * q - 2 * (f.2.2.natAbs : Int) := by grind
      omega
    omega
/-- a form on a cycle is told by the next one -/
theorem stp_inj {D s : Int} {f f' : T3} (h : Frm D s f) (h' : Frm D s f') (hf : fits s f) (hf' : fits s f') (e : stp s f = stp s f') : f = f' := by
  have gc := h.c
  obtain ⟨c1, c2, _⟩ := fits_c h hf
  obtain ⟨c1', c2', _⟩ := fits_c h' hf'
  have te := newT_eq (s := s) (b := f.2.1) h.c
  have te' := newT_eq (s := s) (b := f'.2.1) h'.c
  have ec : f.2.2 = f'.2.2 := congrArg Prod.fst e
  have eb : newB s f.2.1 f.2.2 = newB s f'.2.1 f'.2.2 := congrArg (fun x => x.2.1) e
  obtain ⟨q, hq⟩ := abs_of f.2.2 (newT s f.2.1 f.2.2)
  obtain ⟨q', hq'⟩ := abs_of f'.2.2 (newT s f'.2.1 f'.2.2)
  have p := h.prod
  have p' := h'.prod
  obtain ⟨f1, f2, f3, f4⟩ := hf
  obtain ⟨f1', f2', f3', f4'⟩ := hf'
  rw [eb] at te
  rw [← ec] at hq' te' c1' c2' p'
  have bb : f.2.1 = f'.2.1 := by
    refine emod_uniq (m := 2 * (f.2.2.natAbs : Int)) (by omega) (by omega) (by omega) ⟨q - q', ?_⟩
    have : 2 * (f.2.2.natAbs : Int) * (q - q') = 2 * (f.2.2.natAbs : Int) * q - 2 * (f.2.2.natAbs : Int) * q' := by grind
    rw [← ec] at te
    omega
  obtain ⟨a, b, c⟩ := f
  obtain ⟨a', b', c'⟩ := f'
  simp only at *
  subst bb ec
  have : 4 * (a * c) = 4 * (a' * c) := by omega
  have : a * c = a' * c := by omega
  rw [Int.eq_of_mul_eq_mul_right gc this]
/-- on a cycle the first and the last item have unlike signs -/
theorem fits_sign {D s : Int} {f : T3} (h : Frm D s f) (hf : fits s f) : f.1 * f.2.2 < 0 := by
  obtain ⟨f1, f2, f3, f4⟩ := hf
  have := h.prod
  have := h.2.lt (x := f.2.1) (by omega)
  omega

/-! ### steps again and again -/
def it (s : Int) (f : T3) : Nat → T3
  | 0 => f
  | n + 1 => stp s (it s f n)
theorem it_frm {D s : Int} {f : T3} (h : Frm D s f) : ∀ n, Frm D s (it s f n)
  | 0 => h
  | n + 1 => stp_frm (it_frm h n)
theorem it_add {s : Int} {f : T3} (m : Nat) : ∀ n, it s (it s f m) n = it s f (m + n)
  | 0 => rfl
  | n + 1 => congrArg (stp s) (it_add m n)
theorem it_stp {s : Int} {f : T3} (n : Nat) : it s (stp s f) n = it s f (n + 1) := by
  have := it_add (s := s) (f := f) 1 n
  rw [Nat.add_comm] at this
  exact this
/-- the least -/
theorem least {p : Nat → Prop} : ∀ n, p n → ∃ m, m ≤ n ∧ p m ∧ ∀ j, j < m → ¬ p j := by
  intro n
  induction n using Nat.strongRecOn with
  | _ n ih =>
    intro hn
    by_cases h : ∃ j, j < n ∧ p j
    · obtain ⟨j, hj, pj⟩ := h
      obtain ⟨m, h1, h2, h3⟩ := ih j hj pj
      exact ⟨m, by omega, h2, h3⟩
    · exact ⟨n, Nat.le_refl _, hn, fun j hj pj => h ⟨j, hj, pj⟩⟩
theorem to_cycle {D s : Int} : ∀ (k : Nat) (f : T3), Frm D s f → (f.2.2.natAbs : Int) < 4 ^ k → ∃ n, n ≤ k + 2 ∧ fits s (it s f n) := by
  intro k
  induction k with
  | zero =>
    intro f h hk
    have := h.c
    have e : (4 : Int) ^ 0 = 1 := rfl
    omega
  | succ k ih =>
    intro f h hk
    by_cases hc : s < (f.2.2.natAbs : Int)
    · have l := stp_less h hc
      have e : (4 : Int) ^ (k + 1) = 4 ^ k * 4 := Int.pow_succ _ _
      obtain ⟨n, hn, hf⟩ := ih (stp s f) (stp_frm h) (by omega)
      rw [it_stp] at hf
      exact ⟨n + 1, by omega, hf⟩
    · by_cases h1 : fits s (stp s f)
      · exact ⟨1, by omega, h1⟩
      · have sm := stp_small h (by omega)
        have := small_next (stp_frm h) sm.1 sm.2 (by show (f.2.2.natAbs : Int) ≤ s; omega) h1
        exact ⟨2, by omega, this.2⟩
theorem p100 : (1000000000000000000000000000000000000000000000000000000000000 : Int) ≤ 4 ^ 100 := by decide +kernel
/-- how many steps lead to a cycle -/
theorem led {D s : Int} {f : T3} (h : Frm D s f) (hc : (f.2.2.natAbs : Int) < 1000000000000000000000000000000000000000000000000000000000000) : ∃ n, n ≤ 102 ∧ fits s (it s f n) ∧ ∀ j, j < n → ¬ fits s (it s f j) := by
  obtain ⟨n, hn, hf⟩ := to_cycle 100 f h (Int.lt_of_lt_of_le hc p100)
  obtain ⟨m, h1, h2, h3⟩ := least (p := fun n => fits s (it s f n)) n hf
  exact ⟨m, by omega, h2, h3⟩
theorem it_fits {D s : Int} {f : T3} (h : Frm D s f) (hf : fits s f) : ∀ n, fits s (it s f n)
  | 0 => hf
  | n + 1 => fits_stp (it_frm h n) (it_fits h hf n)
/-! ### as many numbers below N have two that are one -/
theorem pigeon : ∀ (N : Nat) (g : Nat → Nat), (∀ i, i ≤ N → g i < N) → ∃ i j, i < j ∧ j ≤ N ∧ g i = g j := by
  intro N
  induction N with
  | zero =>
    intro g h
    have := h 0 (Nat.le_refl _)
    omega
  | succ N ih =>
    intro g h
    by_cases e : ∃ i, i ≤ N ∧ g i = g (N + 1)
    · obtain ⟨i, hi, e⟩ := e
      exact ⟨i, N + 1, by omega, Nat.le_refl _, e⟩
    · have ne : ∀ i, i ≤ N → g i ≠ g (N + 1) := fun i hi z => e ⟨i, hi, z⟩
      -- what is N takes the place of g (N + 1)
      obtain ⟨i, j, hij, hj, he⟩ := ih (fun i => if g i = N then g (N + 1) else g i) (fun i hi => by
        have a := h i (by omega)
        have b := h (N + 1) (Nat.le_refl _)
        have c := ne i hi
        show (if g i = N then g (N + 1) else g i) < N
        split <;> omega)
      refine ⟨i, j, hij, by omega, ?_⟩
      have a := ne i (by omega)
      have b := ne j hj
      have he : (if g i = N then g (N + 1) else g i) = (if g j = N then g (N + 1) else g j) := he
      split at he <;> split at he <;> omega
/-- a form on a cycle, as a number -/
def code (s : Int) (f : T3) : Nat := (f.2.1 * (4 * s + 1) + (f.1 + 2 * s)).toNat
theorem code_lt {D s : Int} {f : T3} (h : Frm D s f) (hf : fits s f) : code s f < ((s + 1) * (4 * s + 1)).toNat := by
  obtain ⟨_, _, c3⟩ := fits_c h hf
  obtain ⟨f1, f2, f3, f4⟩ := hf
  unfold code
  have w : f.2.1 * (4 * s + 1) ≤ s * (4 * s + 1) := Int.mul_le_mul_of_nonneg_right f2 (by omega)
  have e : (s + 1) * (4 * s + 1) = s * (4 * s + 1) + (4 * s + 1) := by grind
  have w0 : 0 ≤ s * (4 * s + 1) := Int.mul_nonneg (by omega) (by omega)
  omega
theorem code_inj {D s : Int} {f f' : T3} (h : Frm D s f) (h' : Frm D s f') (hf : fits s f) (hf' : fits s f') (e : code s f = code s f') : f = f' := by
  obtain ⟨_, _, c3⟩ := fits_c h hf
  obtain ⟨_, _, c3'⟩ := fits_c h' hf'
  have p := h.prod
  have p' := h'.prod
  have ga := h.a
  obtain ⟨f1, f2, f3, f4⟩ := hf
  obtain ⟨f1', f2', f3', f4'⟩ := hf'
  unfold code at e
  have w : 0 ≤ f.2.1 * (4 * s + 1) := Int.mul_nonneg (by omega) (by omega)
  have w' : 0 ≤ f'.2.1 * (4 * s + 1) := Int.mul_nonneg (by omega) (by omega)
  have e2 : f.2.1 * (4 * s + 1) + (f.1 + 2 * s) = f'.2.1 * (4 * s + 1) + (f'.1 + 2 * s) := by omega
  have ea : f.1 = f'.1 := by
    refine emod_uniq (m := 4 * s + 1) (by omega) (by omega) (by omega) ⟨f'.2.1 - f.2.1, ?_⟩
    have : (4 * s + 1) * (f'.2.1 - f.2.1) = f'.2.1 * (4 * s + 1) - f.2.1 * (4 * s + 1) := by grind
    omega
  have eb : f.2.1 = f'.2.1 := by
    have : f.2.1 * (4 * s + 1) = f'.2.1 * (4 * s + 1) := by omega
    exact Int.eq_of_mul_eq_mul_right (by omega) this
  obtain ⟨a, b, c⟩ := f
  obtain ⟨a', b', c'⟩ := f'
  simp only at *
  subst ea eb
  have : a * c = a * c' := by omega
  rw [Int.eq_of_mul_eq_mul_left ga this]
theorem it_inj {D s : Int} {f : T3} (h : Frm D s f) (hf : fits s f) : ∀ (i k : Nat), it s f i = it s f (i + k) → f = it s f k := by
  intro i
  induction i with
  | zero => intro k e; rw [Nat.zero_add] at e; exact e
  | succ i ih =>
    intro k e
    refine ih k ?_
    rw [Nat.succ_add] at e
    exact stp_inj (it_frm h i) (it_frm h (i + k)) (it_fits h hf i) (it_fits h hf (i + k)) e
/-- a cycle closes -/
theorem closes {D s : Int} {f : T3} (h : Frm D s f) (hf : fits s f) : ∃ k, 0 < k ∧ k ≤ ((s + 1) * (4 * s + 1)).toNat ∧ it s f k = f ∧ ∀ j, 0 < j → j < k → it s f j ≠ f := by
  obtain ⟨i, j, hij, hj, e⟩ := pigeon ((s + 1) * (4 * s + 1)).toNat (fun i => code s (it s f i)) (fun i _ => code_lt (it_frm h i) (it_fits h hf i))
  have e2 := code_inj (it_frm h i) (it_frm h j) (it_fits h hf i) (it_fits h hf j) e
  have e3 := it_inj h hf i (j - i) (by rw [show i + (j - i) = j by omega]; exact e2)
  obtain ⟨k, h1, h2, h3⟩ := least (p := fun k => 0 < k ∧ it s f k = f) (j - i) ⟨by omega, e3.symm⟩
  exact ⟨k, h2.1, by omega, h2.2, fun l h0 hl z => h3 l hl ⟨h0, z⟩⟩
/-- the signs turn about: the cycle has an even length -/
theorem even_len {D s : Int} {f : T3} (h : Frm D s f) (hf : fits s f) {k : Nat} (e : it s f k = f) : k % 2 = 0 := by
  have sgn : ∀ n, (n % 2 = 0 → 0 < f.1 * (it s f n).1) ∧ (n % 2 = 1 → f.1 * (it s f n).1 < 0) := by
    intro n
    induction n with
    | zero =>
      refine ⟨fun _ => ?_, fun z => by omega⟩
      show 0 < f.1 * f.1
      have := h.a
      rcases Int.lt_or_gt_of_ne this with z | z
      · exact Int.mul_pos_of_neg_of_neg z z
      · exact Int.mul_pos z z
    | succ n ih =>
      have sg := fits_sign (it_frm h n) (it_fits h hf n)
      have e1 : (it s f (n + 1)).1 = (it s f n).2.2 := rfl
      rw [e1]
      generalize (it s f n).1 = x at *
      generalize (it s f n).2.2 = y at *
      generalize f.1 = z at *
      -- (z x) (x y) has the sign of z y
      have id : (z * x) * (x * y) = (x * x) * (z * y) := by grind
      have xx : 0 ≤ x * x := sq_nn x
      refine ⟨fun hn => ?_, fun hn => ?_⟩
      · have zx := ih.2 (by omega)
        have pos := Int.mul_pos_of_neg_of_neg zx sg
        rw [id] at pos
        rcases Int.lt_or_le 0 (z * y) with q | q
        · exact q
        · have := Int.mul_nonneg xx (show 0 ≤ -(z * y) by omega)
          rw [Int.mul_neg] at this
          omega
      · have zx := ih.1 (by omega)
        have neg := Int.mul_neg_of_pos_of_neg zx sg
        rw [id] at neg
        rcases Int.lt_or_le (z * y) 0 with q | q
        · exact q
        · have := Int.mul_nonneg xx q
          omega
  have := sgn k
  rw [e] at this
  have p : 0 ≤ f.1 * f.1 := sq_nn f.1
  rcases Nat.mod_two_eq_zero_or_one k with z | z
  · exact z
  · have := this.2 z
    omega
/-! ### sizes -/
theorem Rt.le {D s : Int} (h : Rt D s) : s ≤ D := by
  obtain ⟨h0, h1, _⟩ := h
  have q := sq_nn s
  rcases Int.lt_or_le 0 s with z | z
  · have : s * 1 ≤ s * s := Int.mul_le_mul_of_nonneg_left (by omega) h0
    omega
  · omega
theorem stp_c {D s m : Int} {f : T3} (h : Frm D s f) (hD : D ≤ m) (hc : (f.2.2.natAbs : Int) ≤ m) : ((stp s f).2.2.natAbs : Int) ≤ m ∧ ((stp s f).2.1.natAbs : Int) ≤ m ∧ ((stp s f).1.natAbs : Int) ≤ m := by
  have nb := newB_bd (b := f.2.1) h.c h.2.1
  have e2 : (stp s f).2.1 = newB s f.2.1 f.2.2 := rfl
  have e1 : (stp s f).1 = f.2.2 := rfl
  have sD := h.2.le
  have r0 := h.2.1
  have gc := h.c
  by_cases z : s < (f.2.2.natAbs : Int)
  · have l := stp_less h z
    rw [if_neg (by omega)] at nb
    rw [e1, e2]
    exact ⟨by omega, by omega, hc⟩
  · have sm := stp_small h (by omega)
    have hp := (stp_frm h).prod
    have bn : ((stp s f).2.1.natAbs : Int) ≤ s := by omega
    have np := neg_prod h.2 bn hp
    rw [e1] at np
    refine ⟨?_, by omega, by rw [e1]; exact hc⟩
    have q := sq_nn (stp s f).2.1
    generalize ((stp s f).2.2.natAbs : Int) = y at *
    have y0 : 0 ≤ y ∨ y < 0 := by omega
    rcases Int.lt_or_le y 0 with w | w
    · have := Int.lt_of_lt_of_le h.2.2.1 hD
      have := sq_nn s
      omega
    · have : 1 * y ≤ (f.2.2.natAbs : Int) * y := Int.mul_le_mul_of_nonneg_right (by omega) w
      omega
theorem it_bd {D s m : Int} {f : T3} (h : Frm D s f) (hD : D ≤ m) (h0 : (f.1.natAbs : Int) ≤ m ∧ (f.2.1.natAbs : Int) ≤ m ∧ (f.2.2.natAbs : Int) ≤ m) : ∀ n, ((it s f n).1.natAbs : Int) ≤ m ∧ ((it s f n).2.1.natAbs : Int) ≤ m ∧ ((it s f n).2.2.natAbs : Int) ≤ m
  | 0 => h0
  | n + 1 => by
    obtain ⟨a, b, c⟩ := stp_c (it_frm h n) hD (it_bd h hD h0 n).2.2
    exact ⟨c, b, a⟩
theorem newT_bd {s b c m : Int} (hc : c ≠ 0) (hb : (b.natAbs : Int) ≤ m) (hn : ((newB s b c).natAbs : Int) ≤ m) : ((newT s b c).natAbs : Int) ≤ 2 * m := by
  have e := newT_eq (s := s) (b := b) hc
  have am := abs_mul' (2 * c) (newT s b c)
  rw [← e] at am
  have : 1 * ((newT s b c).natAbs : Int) ≤ ((2 * c).natAbs : Int) * ((newT s b c).natAbs : Int) := Int.mul_le_mul_of_nonneg_right (by omega) (by omega)
  omega
/-- the matrix of the first steps -/
def mt (s : Int) (f : T3) : Nat → M4
  | 0 => ((1, 0), (0, 1))
  | n + 1 => mulM (mt s f n) ((0, -1), (1, newT s (it s f n).2.1 (it s f n).2.2))

section
variable {P : Program} {w : World} {K : PySem.W.Frag} {mg : Str → Option Value} {base : Heap} {CM CR : Addr}
/-! ### what is no form, no matrix -/
theorem ItsH.its {st : Addr} {H : Hp} {xs : List V} {ts : List String} (h : ItsH st H xs ts) : Its K H xs ts :=
  ⟨h.1, fun i x t hx ht => ⟨fun H' s => ((h.2 i x t hx ht).kp (.of s)).ty.1, ((h.2 i x t hx ht).ty (K := K)).2⟩⟩
theorem KdH.noTup {st : Addr} {H : Hp} {v : V} {T : String} (h : KdH st H v T) (e : (T == "tuple") = false) : NoTup K H v := ⟨T, h.ty.1, (h.ty (K := K)).2, e⟩
theorem BadH.badF {st : Addr} {H : Hp} {v : V} (h : BadH 3 st H v) : BadF K H v := by
  rcases h with ⟨T, h, e⟩ | ⟨p, xs, ts, rfl, hp, hI, hl, hb⟩
  · exact .inl (h.noTup e)
  · exact .inr ⟨p, xs, ts, rfl, hp, hI.its, hl, hb⟩
/-- a row that is bad, or good -/
theorem row_bad {n : Nat} {st : Addr} {H : Hp} {v : V} {Q : VK} {E : XK} (h : BadH n st H v) (q : ∀ H', Same H H' → Q (.bl false) H') : spRow K [v, .int (n : Int)] H Q E := by
  rcases h with ⟨T, h, e⟩ | ⟨p, xs, ts, rfl, hp, hI, hl, hb⟩
  · exact ⟨v, n, rfl, .inl ⟨h.noTup e, q _ (Same.refl H)⟩⟩
  · refine ⟨_, n, rfl, .inr ⟨p, xs, ts, rfl, hp, hI.its, hl, fun H' s => ?_⟩⟩
    have e : (decide (xs.length = n) && ts.all (· == "int")) = false := by
      rcases hb with h | h
      · rw [decide_eq_false h, Bool.false_and]
      · rw [h, Bool.and_false]
    rw [e]
    exact q _ s
theorem its2 {st : Addr} {H : Hp} {a b : Int} : ItsH st H [.int a, .int b] ["int", "int"] := itsH_flat rfl
theorem row_good {st p : Addr} {H : Hp} {a b : Int} {Q : VK} {E : XK} (h : H p = some (.tup [.int a, .int b])) (q : ∀ H', Same H H' → Q (.bl true) H') : spRow K [.ref p, .int 2] H Q E :=
  ⟨_, 2, rfl, .inr ⟨p, _, _, rfl, h, (its2 (st := st)).its, by show 2 < 1000; decide, fun H' s => q _ s⟩⟩
/-- no form, told by the heap -/
def NotFH (st : Addr) (H : Hp) (v : V) : Prop := BadH 3 st H v ∨ ∃ (p : Addr) (a b c : Int), v = .ref p ∧ H p = some (.tup [.int a, .int b, .int c]) ∧ formB a b c = false
theorem NotFH.kp {st : Addr} {H H' : Hp} {v : V} (s : Kp st H H') (h : NotFH st H v) : NotFH st H' v := by
  rcases h with h | ⟨p, a, b, c, rfl, hp, hf⟩
  · exact .inl (h.kp s)
  · exact .inr ⟨p, a, b, c, rfl, s.1 _ _ hp, hf⟩
theorem NotFH.notF {st : Addr} {H : Hp} {v : V} (h : NotFH st H v) : NotF K H v := by
  rcases h with h | h
  · exact .inl h.badF
  · exact .inr h
end

section
variable {P : Program} {w : World} {K : PySem.W.Frag} {mg : Str → Option Value} {base : Heap} {CM CR : Addr}
abbrev s_check_items : Stmt := top 22
theorem sc_check_items : FnScope ["f"] ["f"] (defScope s_check_items) := ⟨rfl, rfl, rfl, by decide +kernel, rfl, by decide +kernel, by decide +kernel⟩

def Large (CR : Addr) (H : Hp) (E : XK) : Prop := ∀ d H', Same H H' → H d = none → H' d = some (.xd [("reason", .str "large")]) → E (.ref CR) (some d) H'
def spChkI (CR : Addr) : Sp := fun vs H Q E => ∃ (p : Addr) (a b c : Int), vs = [.ref p] ∧ H p = some (.tup [.int a, .int b, .int c]) ∧ ((lgB a b c = true ∧ Large CR H E) ∨ (lgB a b c = false ∧ ∀ H', Same H H' → Q .non H'))
theorem cal_chki (D : Dn K mg "check_items" s_check_items ["f"]) (B : Bl mg) (c_is_large : Cal P w K mg base "is_large" 1 ["f"] spLarge) (e_E : ErrI P w K mg base CM CR) : CalX P w K mg base "check_items" 3 ["f"] (spChkI CR) := by
  refine D.calX sc_check_items (fun vs H Q E h => ?_) (fun f cdv A outer s H vs Q E hr h => ?_)
  · obtain ⟨p, a, b, c, rfl, _⟩ := h
    rfl
  · obtain ⟨p, a, b, c, rfl, hp, h⟩ := h
    refine ⟨_, (pss_one (ps_if (pt_val (pe_cal c_is_large (hr.mono (by decide)) rfl (pa_cons (pv 0) pa_nil))) (pss_one (ps_ref e_E rfl (takes_of rfl rfl rfl rfl) (hr.mono (by decide)) rfl)) pss_nil)), ?_⟩
    walk_at "rd"
    rcases h with ⟨hl, e⟩ | ⟨hl, q⟩
    · exact ⟨p, a, b, c, rfl, hp, fun H1 s1 => ⟨_, rfl, by rw [if_pos hl]; exact fun d H' s nd hx => e d H' (s1.trans s) (s1.free nd) hx⟩⟩
    · exact ⟨p, a, b, c, rfl, hp, fun H1 s1 => ⟨_, rfl, by rw [hl, if_neg (by decide)]; exact q H1 s1⟩⟩
theorem form_lg {a b c : Int} (h : formB a b c = true) : lgB a b c = false := by
  unfold formB at h
  simp only [Bool.and_eq_true, Bool.not_eq_true'] at h
  exact h.1
theorem form_sz {a b c : Int} (h : lgB a b c = false) : Sz 200 a ∧ Sz 200 b ∧ Sz 200 c := by
  have := lgB_no h
  unfold B60 at this
  unfold Sz
  refine ⟨?_, ?_, ?_⟩ <;> omega
/-- the word of a form's own: no form, or one -/
def OrF (K : PySem.W.Frag) (CM : Addr) (H : Hp) (v : V) (E : XK) (G : Addr → Int → Int → Int → Prop) : Prop := (NotF K H v ∧ ∀ H', Same H H' → E (.ref CM) none H') ∨ ∃ (p : Addr) (a b c : Int), v = .ref p ∧ H p = some (.tup [.int a, .int b, .int c]) ∧ formB a b c = true ∧ G p a b c
theorem OrF.chk {K : PySem.W.Frag} {CM : Addr} {H : Hp} {v : V} {E : XK} {G : Addr → Int → Int → Int → Prop} {Q : VK} (h : OrF K CM H v E G) (q : ∀ p a b c H', v = .ref p → Same H H' → H' p = some (.tup [.int a, .int b, .int c]) → formB a b c = true → G p a b c → Q .non H') : spChkF K CM [v] H Q E := by
  refine ⟨v, rfl, ?_⟩
  rcases h with ⟨h, e⟩ | ⟨p, a, b, c, rfl, hp, hf, g⟩
  · exact .inl ⟨h, e⟩
  · exact .inr ⟨p, a, b, c, rfl, hp, hf, fun H' s => q p a b c H' rfl s (s _ _ hp) hf g⟩
end

/-! ### matrices, values and triples drawn -/
section
variable {P : Program} {w : World} {K : PySem.W.Frag} {mg : Str → Option Value} {base : Heap} {CM CR : Addr}
theorem isM_but {st : Addr} {H H' : Hp} {l : List V} {x : V} {m : M4} (hs : H st = some (.lst l)) (s : But st H H') (h : IsM H x m) : IsM H' x m := by
  obtain ⟨r, r1, r2, q, e, e1, e2⟩ := h
  exact ⟨r, r1, r2, q, s _ _ (ne_of e hs (by intro z; cases z)) e, s _ _ (ne_of e1 hs (by intro z; cases z)) e1, s _ _ (ne_of e2 hs (by intro z; cases z)) e2⟩
abbrev s__law_matrix : Stmt := top 51
theorem sc__law_matrix : FnScope ["state", "turns", "most", "found", "turn", "k"] ["state", "turns", "most"] (defScope s__law_matrix) := ⟨rfl, rfl, rfl, by decide +kernel, rfl, by decide +kernel, by decide +kernel⟩

def spMat : Sp := fun vs H Q _ => ∃ (st : Addr) (x y t n : Int), vs = [.ref st, .int t, .int n] ∧ H st = some (.lst [.int x, .int y]) ∧ 0 ≤ t ∧ t ≤ 8 ∧ 1 ≤ n ∧ n ≤ 100000000000000000000 ∧
  ∀ p m x' y' H', But st H H' → H' st = some (.lst [.int x', .int y']) → IsM H' (.ref p) m → detM m = 1 → SzM 600 m → Q (.ref p) H'
theorem cal_matrix (D : Dn K mg "_law_matrix" s__law_matrix ["state", "turns", "most"]) (B : Bl mg) (c__law_take : Cal P w K mg base "_law_take" 1 ["state", "m"] spTake) (c__law_product : Cal P w K mg base "_law_product" 1 ["m", "n"] spProd) : Cal P w K mg base "_law_matrix" 2 ["state", "turns", "most"] spMat := by
  refine D.cal sc__law_matrix (fun vs H Q E h => ?_) (fun f cdv A outer s H vs Q E hr h => ?_)
  · obtain ⟨st, x, y, t, n, rfl, _⟩ := h
    rfl
  · obtain ⟨st, x, y, t, n, rfl, hst, t0, t8, n1, n2, q⟩ := h
    refine ⟨_, (pss_cons (ps_set (i := 3) sc__law_matrix.nd rfl (Or.inl rfl) (pe_tup (pa_cons (pe_tup (pa_cons pe_int (pa_cons pe_int pa_nil))) (pa_cons (pe_tup (pa_cons pe_int (pa_cons pe_int pa_nil))) pa_nil))))
  (pss_cons (ps_for PassesOwn.never rfl (pi_range1 rfl B.range (pa_cons (pv 1) pa_nil)) (pg_name (i := 4) sc__law_matrix.nd rfl (Or.inl rfl)) (pss_cons (ps_set (i := 5) sc__law_matrix.nd rfl (Or.inl rfl) (pe_op op_sub (pe_cal c__law_take (hr.mono (by decide)) rfl (pa_cons (pv 0) (pa_cons (pe_op op_add (pe_op op_mulI pe_int (pv 2)) pe_int) pa_nil))) (pv 2)))
  (pss_one (ps_set (i := 3) sc__law_matrix.nd rfl (Or.inl rfl) (pe_cal c__law_product (hr.mono (by decide)) rfl (pa_cons (pv 3) (pa_cons (pe_ix ix_list (pe_lst (pa_cons (pe_tup (pa_cons (pe_tup (pa_cons pe_int (pa_cons (pv 5) pa_nil))) (pa_cons (pe_tup (pa_cons pe_int (pa_cons pe_int pa_nil))) pa_nil))) (pa_cons (pe_tup (pa_cons (pe_tup (pa_cons pe_int (pa_cons pe_int pa_nil))) (pa_cons (pe_tup (pa_cons (pv 5) (pa_cons pe_int pa_nil))) pa_nil))) (pa_cons (pe_tup (pa_cons (pe_tup (pa_cons pe_int (pa_cons (pe_un un_neg pe_int) pa_nil))) (pa_cons (pe_tup (pa_cons pe_int (pa_cons (pv 5) pa_nil))) pa_nil))) pa_nil)))) (pe_cal c__law_take (hr.mono (by decide)) rfl (pa_cons (pv 0) (pa_cons pe_int pa_nil))) (fun _ _ => rfl)) pa_nil)))))))
  (pss_one (ps_ret (pv 3))))), ?_⟩
    rw [CB.rd_seq]
    walk_at "rs"
    refine ⟨by decide, fun p np => ⟨by decide, fun p1 np1 => ⟨by decide, fun p2 np2 => ?_⟩⟩⟩
    have st0 : Same H (upd (upd (upd H p (.tup [.int 1, .int 0])) p1 (.tup [.int 0, .int 1])) p2 (.tup [.ref p, .ref p1])) := ((same_upd np).trans (same_upd np1)).trans (same_upd np2)
    have m0 : IsM (upd (upd (upd H p (.tup [.int 1, .int 0])) p1 (.tup [.int 0, .int 1])) p2 (.tup [.ref p, .ref p1])) (.ref p2) ((1, 0), (0, 1)) := ⟨p2, p, p1, rfl, upd_same, same_upd np2 _ _ (same_upd np1 _ _ upd_same), same_upd np2 _ _ upd_same⟩
    generalize upd (upd (upd H p (.tup [.int 1, .int 0])) p1 (.tup [.int 0, .int 1])) p2 (.tup [.ref p, .ref p1]) = H0 at *
    rw [CB.rd_seq]
    walk_at "rs"
    refine ⟨by omega, by omega, ?_⟩
    refine ForR.w (fun i σ H1 => ∃ g m x y s4 s5, σ = [some (.ref st), some (.int t), some (.int n), some (.ref g), s4, s5] ∧ But st H H1 ∧ H1 st = some (.lst [.int x, .int y]) ∧ IsM H1 (.ref g) m ∧ detM m = 1 ∧ SzM (1 + 71 * i) m ∧ i ≤ 8) ⟨p2, _, x, y, _, _, rfl, fun b o _ e => st0 _ _ e, st0 _ _ hst, m0, rfl, ⟨by unfold Sz; decide, by unfold Sz; decide, by unfold Sz; decide, by unfold Sz; decide⟩, by decide⟩ ?_ ?_
    · rintro i σ H1 hi ⟨g, m, x1, y1, s4, s5, rfl, bt, h1, hM, hd, hs, h8⟩ N hN
      have hi8 : i < 8 := by omega
      walk_at "rs"
      rw [CB.rd_seq]
      walk_at "rs"
      refine ⟨mulL (by decide), st, x1, y1, 2 * n + 1, rfl, h1, by omega, Nat.lt_of_le_of_lt (log_lt (k := 79) (by show (2 * n + 1).natAbs < 2 ^ 80; omega)) (by decide), fun v x2 y2 v0 v1 => ?_⟩
      have bt2 : But st H (upd H1 st (.lst [.int x2, .int y2])) := bt.upd
      have hM2 : IsM (upd H1 st (.lst [.int x2, .int y2])) (.ref g) m := isM_but h1 But.refl.upd hM
      have hs2 : upd H1 st (.lst [.int x2, .int y2]) st = some (.lst [.int x2, .int y2]) := upd_same
      generalize upd H1 st (.lst [.int x2, .int y2]) = H2 at *
      refine ⟨v, rfl, by decide, fun p1 n1 => ⟨by decide, fun p2 n2 => ⟨by decide, fun p3 n3 => ?_⟩⟩⟩
      obtain ⟨sA, mA⟩ := newM n1 n2 n3
      generalize upd (upd (upd H2 p1 _) p2 _) p3 _ = HA at *
      refine ⟨by decide, fun p4 n4 => ⟨by decide, fun p5 n5 => ⟨by decide, fun p6 n6 => ?_⟩⟩⟩
      obtain ⟨sB, mB⟩ := newM n4 n5 n6
      generalize upd (upd (upd HA p4 _) p5 _) p6 _ = HB at *
      refine ⟨by decide, fun p7 n7 => ⟨by decide, fun p8 n8 => ⟨by decide, fun p9 n9 => ?_⟩⟩⟩
      obtain ⟨sC, mC⟩ := newM n7 n8 n9
      generalize upd (upd (upd HB p7 _) p8 _) p9 _ = HC at *
      refine ⟨by decide, fun l nl => ?_⟩
      have sL : Same H2 (upd HC l (.lst [.ref p3, .ref p6, .ref p9])) := ((sA.trans sB).trans sC).trans (same_upd nl)
      have mA' := ((mA.same sB).same sC).same (same_upd (o := .lst [.ref p3, .ref p6, .ref p9]) nl)
      have mB' := (mB.same sC).same (same_upd (o := .lst [.ref p3, .ref p6, .ref p9]) nl)
      have mC' := mC.same (same_upd (o := .lst [.ref p3, .ref p6, .ref p9]) nl)
      have hl : upd HC l (.lst [.ref p3, .ref p6, .ref p9]) l = some (.lst [.ref p3, .ref p6, .ref p9]) := upd_same
      have sl : st ≠ l := ne_of_none (sC _ _ (sB _ _ (sA _ _ hs2))) nl
      generalize upd HC l (.lst [.ref p3, .ref p6, .ref p9]) = HL at *
      have hsL := sL _ _ hs2
      refine ⟨st, x2, y2, 3, rfl, hsL, by decide, by decide +kernel, fun u x3 y3 u0 u1 => ?_⟩
      have bu : But st HL (upd HL st (.lst [.int x3, .int y3])) := But.refl.upd
      have pick : ∃ q mq, atI [V.ref p3, V.ref p6, V.ref p9] u = some (.ref q) ∧ IsM (upd HL st (.lst [.int x3, .int y3])) (.ref q) mq ∧ detM mq = 1 ∧ SzM 70 mq := by
        have z0 : Sz 70 0 := by unfold Sz; decide
        have z1 : Sz 70 1 := by unfold Sz; decide
        have zm : Sz 70 (-1) := by unfold Sz; decide
        have zk : Sz 70 (v - n) := by unfold Sz; omega
        have c : u = 0 ∨ u = 1 ∨ u = 2 := by omega
        rcases c with rfl | rfl | rfl
        · exact ⟨p3, _, rfl, isM_but hsL bu mA', by simp [detM], ⟨z1, zk, z0, z1⟩⟩
        · exact ⟨p6, _, rfl, isM_but hsL bu mB', by simp [detM], ⟨z1, z0, zk, z1⟩⟩
        · exact ⟨p9, _, rfl, isM_but hsL bu mC', by simp [detM], ⟨z0, zm, z1, zk⟩⟩
      obtain ⟨q', mq, eq', hq, dq, sq⟩ := pick
      have le100000 : ∀ {k : Nat} {m : M4}, SzM k m → k ≤ 100000 → SzM 100000 m := fun {k m} h c => ⟨h.1.le c, h.2.1.le c, h.2.2.1.le c, h.2.2.2.le c⟩
      refine ⟨_, u, rfl, SqL.of (by rw [upd_ne sl.symm]; exact hl), _, eq', g, q', m, mq, rfl, isM_but hsL bu (hM2.same sL), hq, le100000 hs (by omega), le100000 sq (by omega), fun p' H'' s'' np' hM'' => ?_⟩
      have btL : But st H HL := bt2.same sL
      refine hN _ _ ⟨p', _, x3, y3, _, _, rfl, (btL.trans bu).same s'', s'' _ _ upd_same, hM'', detM_mul hd dq, ?_, by omega⟩
      have z := mulM_sz hs sq
      rw [show 1 + 71 * i + 70 + 1 = 1 + 71 * (i + 1) by omega] at z
      exact z
    · rintro σ H1 ⟨g, m, x1, y1, s4, s5, rfl, bt, h1, hM, hd, hs, h8⟩
      walk_at "rs"
      exact q g m x1 y1 H1 bt h1 hM hd ⟨hs.1.le (by omega), hs.2.1.le (by omega), hs.2.2.1.le (by omega), hs.2.2.2.le (by omega)⟩
abbrev s__law_strange : Stmt := top 55
theorem sc__law_strange : FnScope ["state", "values"] ["state"] (defScope s__law_strange) := ⟨rfl, rfl, rfl, by decide +kernel, rfl, by decide +kernel, by decide +kernel⟩

def spStrange : Sp := fun vs H Q _ => ∃ (st : Addr) (x y : Int), vs = [.ref st] ∧ H st = some (.lst [.int x, .int y]) ∧ ∀ v x' y' H', But st H H' → H' st = some (.lst [.int x', .int y']) → NotFH st H' v → Q v H'
theorem cal_strange (D : Dn K mg "_law_strange" s__law_strange ["state"]) (B : Bl mg) (c__law_take : Cal P w K mg base "_law_take" 1 ["state", "m"] spTake) : Cal P w K mg base "_law_strange" 2 ["state"] spStrange := by
  refine D.cal sc__law_strange (fun vs H Q E h => ?_) (fun f cdv A outer s H vs Q E hr h => ?_)
  · obtain ⟨st, x, y, rfl, _⟩ := h
    rfl
  · obtain ⟨st, x, y, rfl, hst, q⟩ := h
    refine ⟨_, (pss_cons (ps_set (i := 1) sc__law_strange.nd rfl (Or.inl rfl) (pe_lst (pa_cons pe_non (pa_cons pe_bl (pa_cons pe_str (pa_cons (pe_tup pa_nil) (pa_cons (pe_tup (pa_cons pe_int (pa_cons pe_int pa_nil))) (pa_cons (pe_tup (pa_cons pe_int (pa_cons pe_int (pa_cons pe_int (pa_cons pe_int pa_nil))))) (pa_cons (pe_lst (pa_cons pe_int (pa_cons pe_int (pa_cons pe_int pa_nil)))) (pa_cons (pe_tup (pa_cons pe_int (pa_cons pe_int (pa_cons pe_str pa_nil)))) (pa_cons (pe_tup (pa_cons pe_int (pa_cons pe_bl (pa_cons pe_int pa_nil)))) (pa_cons (pe_tup (pa_cons pe_int (pa_cons pe_int (pa_cons pe_int pa_nil)))) (pa_cons (pe_tup (pa_cons pe_int (pa_cons pe_int (pa_cons pe_int pa_nil)))) (pa_cons (pe_tup (pa_cons (pe_un un_neg pe_int) (pa_cons pe_int (pa_cons (pe_un un_neg pe_int) pa_nil)))) (pa_cons (pe_tup (pa_cons pe_int (pa_cons pe_int (pa_cons pe_int pa_nil)))) (pa_cons pe_int (pa_cons (pe_tup (pa_cons (pe_tup (pa_cons pe_int (pa_cons pe_int (pa_cons pe_int pa_nil)))) pa_nil)) (pa_cons (pe_tup (pa_cons pe_int (pa_cons pe_int (pa_cons pe_non pa_nil)))) pa_nil))))))))))))))))))
  (pss_one (ps_ret (pe_ix ix_list (pv 1) (pe_cal c__law_take (hr.mono (by decide)) rfl (pa_cons (pv 0) (pa_cons (pe_callB cr_lenS rfl B.len (by decide +kernel) (pa_cons (pv 1) pa_nil)) pa_nil))) (fun _ _ => rfl))))), ?_⟩
    rw [CB.rd_seq]
    walk_at "rs"
    refine ⟨by decide, fun p1 n1 => ?_⟩
    have s1 : Same H (upd H p1 (HO.tup [])) := same_upd n1
    have e1 : upd H p1 (HO.tup []) p1 = some (HO.tup []) := upd_same
    generalize upd H p1 (HO.tup []) = G1 at *
    refine ⟨by decide, fun p2 n2 => ?_⟩
    have s2 : Same G1 (upd G1 p2 (HO.tup [V.int 1, V.int 2])) := same_upd n2
    have e2 : upd G1 p2 (HO.tup [V.int 1, V.int 2]) p2 = some (HO.tup [V.int 1, V.int 2]) := upd_same
    generalize upd G1 p2 (HO.tup [V.int 1, V.int 2]) = G2 at *
    refine ⟨by decide, fun p3 n3 => ?_⟩
    have s3 : Same G2 (upd G2 p3 (HO.tup [V.int 1, V.int 2, V.int 3, V.int 4])) := same_upd n3
    have e3 : upd G2 p3 (HO.tup [V.int 1, V.int 2, V.int 3, V.int 4]) p3 = some (HO.tup [V.int 1, V.int 2, V.int 3, V.int 4]) := upd_same
    generalize upd G2 p3 (HO.tup [V.int 1, V.int 2, V.int 3, V.int 4]) = G3 at *
    refine ⟨by decide, fun p4 n4 => ?_⟩
    have s4 : Same G3 (upd G3 p4 (HO.lst [V.int 1, V.int 1, V.int 6])) := same_upd n4
    have e4 : upd G3 p4 (HO.lst [V.int 1, V.int 1, V.int 6]) p4 = some (HO.lst [V.int 1, V.int 1, V.int 6]) := upd_same
    generalize upd G3 p4 (HO.lst [V.int 1, V.int 1, V.int 6]) = G4 at *
    refine ⟨by decide, fun p5 n5 => ?_⟩
    have s5 : Same G4 (upd G4 p5 (HO.tup [V.int 1, V.int 1, V.str "6"])) := same_upd n5
    have e5 : upd G4 p5 (HO.tup [V.int 1, V.int 1, V.str "6"]) p5 = some (HO.tup [V.int 1, V.int 1, V.str "6"]) := upd_same
    generalize upd G4 p5 (HO.tup [V.int 1, V.int 1, V.str "6"]) = G5 at *
    refine ⟨by decide, fun p6 n6 => ?_⟩
    have s6 : Same G5 (upd G5 p6 (HO.tup [V.int 1, V.bl true, V.int 6])) := same_upd n6
    have e6 : upd G5 p6 (HO.tup [V.int 1, V.bl true, V.int 6]) p6 = some (HO.tup [V.int 1, V.bl true, V.int 6]) := upd_same
    generalize upd G5 p6 (HO.tup [V.int 1, V.bl true, V.int 6]) = G6 at *
    refine ⟨by decide, fun p7 n7 => ?_⟩
    have s7 : Same G6 (upd G6 p7 (HO.tup [V.int 1, V.int 2, V.int 1])) := same_upd n7
    have e7 : upd G6 p7 (HO.tup [V.int 1, V.int 2, V.int 1]) p7 = some (HO.tup [V.int 1, V.int 2, V.int 1]) := upd_same
    generalize upd G6 p7 (HO.tup [V.int 1, V.int 2, V.int 1]) = G7 at *
    refine ⟨by decide, fun p8 n8 => ?_⟩
    have s8 : Same G7 (upd G7 p8 (HO.tup [V.int 0, V.int 0, V.int 0])) := same_upd n8
    have e8 : upd G7 p8 (HO.tup [V.int 0, V.int 0, V.int 0]) p8 = some (HO.tup [V.int 0, V.int 0, V.int 0]) := upd_same
    generalize upd G7 p8 (HO.tup [V.int 0, V.int 0, V.int 0]) = G8 at *
    refine ⟨by decide, fun p9 n9 => ?_⟩
    have s9 : Same G8 (upd G8 p9 (HO.tup [V.int (-1), V.int 1, V.int (-6)])) := same_upd n9
    have e9 : upd G8 p9 (HO.tup [V.int (-1), V.int 1, V.int (-6)]) p9 = some (HO.tup [V.int (-1), V.int 1, V.int (-6)]) := upd_same
    generalize upd G8 p9 (HO.tup [V.int (-1), V.int 1, V.int (-6)]) = G9 at *
    refine ⟨by decide, fun p10 n10 => ?_⟩
    have s10 : Same G9 (upd G9 p10 (HO.tup [V.int 1, V.int 3, V.int 2])) := same_upd n10
    have e10 : upd G9 p10 (HO.tup [V.int 1, V.int 3, V.int 2]) p10 = some (HO.tup [V.int 1, V.int 3, V.int 2]) := upd_same
    generalize upd G9 p10 (HO.tup [V.int 1, V.int 3, V.int 2]) = G10 at *
    refine ⟨by decide, fun p11 n11 => ?_⟩
    have s11 : Same G10 (upd G10 p11 (HO.tup [V.int 1, V.int 1, V.int 6])) := same_upd n11
    have e11 : upd G10 p11 (HO.tup [V.int 1, V.int 1, V.int 6]) p11 = some (HO.tup [V.int 1, V.int 1, V.int 6]) := upd_same
    generalize upd G10 p11 (HO.tup [V.int 1, V.int 1, V.int 6]) = G11 at *
    refine ⟨by decide, fun p12 n12 => ?_⟩
    have s12 : Same G11 (upd G11 p12 (HO.tup [V.ref p11])) := same_upd n12
    have e12 : upd G11 p12 (HO.tup [V.ref p11]) p12 = some (HO.tup [V.ref p11]) := upd_same
    generalize upd G11 p12 (HO.tup [V.ref p11]) = G12 at *
    refine ⟨by decide, fun p13 n13 => ?_⟩
    have s13 : Same G12 (upd G12 p13 (HO.tup [V.int 1, V.int 1, V.non])) := same_upd n13
    have e13 : upd G12 p13 (HO.tup [V.int 1, V.int 1, V.non]) p13 = some (HO.tup [V.int 1, V.int 1, V.non]) := upd_same
    generalize upd G12 p13 (HO.tup [V.int 1, V.int 1, V.non]) = G13 at *
    refine ⟨by decide, fun p14 n14 => ?_⟩
    have s14 : Same G13 (upd G13 p14 (HO.lst [V.non, V.bl true, V.str "1", V.ref p1, V.ref p2, V.ref p3, V.ref p4, V.ref p5, V.ref p6, V.ref p7, V.ref p8, V.ref p9, V.ref p10, V.int 5, V.ref p12, V.ref p13])) := same_upd n14
    have e14 : upd G13 p14 (HO.lst [V.non, V.bl true, V.str "1", V.ref p1, V.ref p2, V.ref p3, V.ref p4, V.ref p5, V.ref p6, V.ref p7, V.ref p8, V.ref p9, V.ref p10, V.int 5, V.ref p12, V.ref p13]) p14 = some (HO.lst [V.non, V.bl true, V.str "1", V.ref p1, V.ref p2, V.ref p3, V.ref p4, V.ref p5, V.ref p6, V.ref p7, V.ref p8, V.ref p9, V.ref p10, V.int 5, V.ref p12, V.ref p13]) := upd_same
    generalize upd G13 p14 (HO.lst [V.non, V.bl true, V.str "1", V.ref p1, V.ref p2, V.ref p3, V.ref p4, V.ref p5, V.ref p6, V.ref p7, V.ref p8, V.ref p9, V.ref p10, V.int 5, V.ref p12, V.ref p13]) = G14 at *
    have t14 : Same G14 G14 := Same.refl _
    have t13 := s14.trans t14
    have t12 := s13.trans t13
    have t11 := s12.trans t12
    have t10 := s11.trans t11
    have t9 := s10.trans t10
    have t8 := s9.trans t9
    have t7 := s8.trans t8
    have t6 := s7.trans t7
    have t5 := s6.trans t6
    have t4 := s5.trans t5
    have t3 := s4.trans t4
    have t2 := s3.trans t3
    have t1 := s2.trans t2
    have hs := t1 _ _ (s1 _ _ hst)
    have hS : Same H G14 := s1.trans t1
    refine ⟨16, .inl ⟨_, SqL.of e14, rfl⟩, ?_⟩
    have sl : st ≠ p14 := ne_of hs e14 (by intro z; cases z)
    have sl4 : st ≠ p4 := ne_of hs (t4 _ _ e4) (by intro z; cases z)
    refine ⟨st, x, y, 16, rfl, hs, by decide, by decide +kernel, fun k x1 y1 k0 k1 => ?_⟩
    have btL : But st H G14 := fun b o _ e => hS _ _ e
    have bt : But st H (upd G14 st (.lst [.int x1, .int y1])) := btL.upd
    have nk : ∀ {b us}, G14 b = some (.tup us) → (upd G14 st (.lst [.int x1, .int y1])) b = some (.tup us) := fun {b us} e => by
      rw [upd_ne (ne_of e hs (by intro z; cases z))]
      exact e
    have f1 := nk (t1 _ _ e1)
    have f2 := nk (t2 _ _ e2)
    have f3 := nk (t3 _ _ e3)
    have f5 := nk (t5 _ _ e5)
    have f6 := nk (t6 _ _ e6)
    have f7 := nk (t7 _ _ e7)
    have f8 := nk (t8 _ _ e8)
    have f9 := nk (t9 _ _ e9)
    have f10 := nk (t10 _ _ e10)
    have f11 := nk (t11 _ _ e11)
    have f12 := nk (t12 _ _ e12)
    have f13 := nk (t13 _ _ e13)
    have f4 : (upd G14 st (.lst [.int x1, .int y1])) p4 = some (.lst [.int 1, .int 1, .int 6]) := by
      rw [upd_ne sl4.symm]
      exact t4 _ _ e4
    have f14 : (upd G14 st (.lst [.int x1, .int y1])) p14 = some (.lst [V.non, V.bl true, V.str "1", V.ref p1, V.ref p2, V.ref p3, V.ref p4, V.ref p5, V.ref p6, V.ref p7, V.ref p8, V.ref p9, V.ref p10, V.int 5, V.ref p12, V.ref p13]) := by
      rw [upd_ne sl.symm]
      exact e14
    have fs : (upd G14 st (.lst [.int x1, .int y1])) st = some (.lst [.int x1, .int y1]) := upd_same
    generalize upd G14 st (.lst [.int x1, .int y1]) = HF at *
    have pick : ∃ v, atI [V.non, V.bl true, V.str "1", V.ref p1, V.ref p2, V.ref p3, V.ref p4, V.ref p5, V.ref p6, V.ref p7, V.ref p8, V.ref p9, V.ref p10, V.int 5, V.ref p12, V.ref p13] k = some v ∧ NotFH st HF v := by
      have c : k = 0 ∨ k = 1 ∨ k = 2 ∨ k = 3 ∨ k = 4 ∨ k = 5 ∨ k = 6 ∨ k = 7 ∨ k = 8 ∨ k = 9 ∨ k = 10 ∨ k = 11 ∨ k = 12 ∨ k = 13 ∨ k = 14 ∨ k = 15 := by omega
      rcases c with rfl | rfl | rfl | rfl | rfl | rfl | rfl | rfl | rfl | rfl | rfl | rfl | rfl | rfl | rfl | rfl
      · exact ⟨_, rfl, .inl (.inl ⟨"NoneType", .inl ⟨rfl, rfl⟩, by decide⟩)⟩
      · exact ⟨_, rfl, .inl (.inl ⟨"bool", .inl ⟨rfl, rfl⟩, by decide⟩)⟩
      · exact ⟨_, rfl, .inl (.inl ⟨"str", .inl ⟨rfl, rfl⟩, by decide⟩)⟩
      · exact ⟨_, rfl, .inl (.inr ⟨_, _, _, rfl, f1, itsH_flat rfl, by decide, .inl (by decide)⟩)⟩
      · exact ⟨_, rfl, .inl (.inr ⟨_, _, _, rfl, f2, itsH_flat rfl, by decide, .inl (by decide)⟩)⟩
      · exact ⟨_, rfl, .inl (.inr ⟨_, _, _, rfl, f3, itsH_flat rfl, by decide, .inl (by decide)⟩)⟩
      · exact ⟨_, rfl, .inl (.inl ⟨"list", .inr ⟨_, rfl, .inl ⟨sl4.symm, rfl, _, f4⟩⟩, by decide⟩)⟩
      · exact ⟨_, rfl, .inl (.inr ⟨_, _, _, rfl, f5, itsH_flat rfl, by decide, .inr (by decide)⟩)⟩
      · exact ⟨_, rfl, .inl (.inr ⟨_, _, _, rfl, f6, itsH_flat rfl, by decide, .inr (by decide)⟩)⟩
      · exact ⟨_, rfl, .inr ⟨_, _, _, _, rfl, f7, by decide +kernel⟩⟩
      · exact ⟨_, rfl, .inr ⟨_, _, _, _, rfl, f8, by decide +kernel⟩⟩
      · exact ⟨_, rfl, .inr ⟨_, _, _, _, rfl, f9, by decide +kernel⟩⟩
      · exact ⟨_, rfl, .inr ⟨_, _, _, _, rfl, f10, by decide +kernel⟩⟩
      · exact ⟨_, rfl, .inl (.inl ⟨"int", .inl ⟨rfl, rfl⟩, by decide⟩)⟩
      · exact ⟨_, rfl, .inl (.inr ⟨_, _, _, rfl, f12, itsH_one f11, by show 1 < 1000; decide, .inl (by show (1 : Nat) ≠ 3; decide)⟩)⟩
      · exact ⟨_, rfl, .inl (.inr ⟨_, _, _, rfl, f13, itsH_flat rfl, by decide, .inr (by decide)⟩)⟩
    obtain ⟨v, ev, hv⟩ := pick
    exact ⟨_, k, rfl, SqL.of f14, v, ev, q v x1 y1 HF bt fs hv⟩
end

/-! ### what is told: integers, triples, matrices, tuples of these -/
section
variable {P : Program} {w : World} {K : PySem.W.Frag} {mg : Str → Option Value} {base : Heap} {CM CR : Addr}
theorem sqT_same {H H' : Hp} {a : Addr} {xs : List V} (s : Same H H') (h : SqT K H a xs) : SqT K H' a xs := by
  rcases h with (h | ⟨o, h⟩) | h
  · exact .inl (.inl (s _ _ h))
  · exact .inl (.inr ⟨o, s _ _ h⟩)
  · exact .inr h
theorem sqT_ty {H : Hp} {a : Addr} {xs : List V} (h : SqT K H a xs) : TyX K H (.ref a) (.type "tuple") := by
  rcases h with (h | ⟨o, h⟩) | ⟨o, its, n, e, c, _⟩
  · exact .base (.tup h)
  · exact .fTuple h
  · exact .kTuple e c
/-- a matrix, maybe a global one -/
def IsK (K : PySem.W.Frag) (H : Hp) (x : V) (m : M4) : Prop := ∃ r r1 r2, x = V.ref r ∧ SqT K H r [.ref r1, .ref r2] ∧ SqT K H r1 [.int m.1.1, .int m.1.2] ∧ SqT K H r2 [.int m.2.1, .int m.2.2]
theorem isK_same {H H' : Hp} {x : V} {m : M4} (s : Same H H') (h : IsK K H x m) : IsK K H' x m := by
  obtain ⟨r, r1, r2, e, h0, h1, h2⟩ := h
  exact ⟨r, r1, r2, e, sqT_same s h0, sqT_same s h1, sqT_same s h2⟩
theorem isM_K {H : Hp} {x : V} {m : M4} (h : IsM H x m) : IsK K H x m := by
  obtain ⟨r, r1, r2, e, h0, h1, h2⟩ := h
  exact ⟨r, r1, r2, e, SqT.of h0, SqT.of h1, SqT.of h2⟩
inductive Itm where
  | I (n : Int)
  | T (t : T3)
  | M (m : M4)
def Itm.dat : Itm → PyData
  | .I n => .int n
  | .T t => dT3 t
  | .M m => dM m
def AtT (H : Hp) (v : V) (t : T3) : Prop := ∃ r, v = V.ref r ∧ H r = some (.tup [.int t.1, .int t.2.1, .int t.2.2])
def AtN (H : Hp) (v : V) : Itm → Prop
  | .I n => v = .int n
  | .T t => AtT H v t
  | .M m => IsM H v m
def AtK (K : PySem.W.Frag) (H : Hp) (v : V) : Itm → Prop
  | .I n => v = .int n
  | .T t => AtT H v t
  | .M m => IsK K H v m
theorem AtT.same {H H' : Hp} {v : V} {t : T3} (s : Same H H') (h : AtT H v t) : AtT H' v t := by
  obtain ⟨r, e, h⟩ := h
  exact ⟨r, e, s _ _ h⟩
theorem atN_same {H H' : Hp} {v : V} {i : Itm} (s : Same H H') (h : AtN H v i) : AtN H' v i := by
  cases i with
  | I n => exact h
  | T t => exact AtT.same s h
  | M m => exact IsM.same s h
theorem atK_same {H H' : Hp} {v : V} {i : Itm} (s : Same H H') (h : AtK K H v i) : AtK K H' v i := by
  cases i with
  | I n => exact h
  | T t => exact AtT.same s h
  | M m => exact isK_same s h
theorem atN_K {H : Hp} {v : V} {i : Itm} (h : AtN H v i) : AtK K H v i := by
  cases i with
  | I n => exact h
  | T t => exact h
  | M m => exact isM_K h
theorem atN_L {H : Hp} {v : V} {i : Itm} {D : Addr} {l : List V} {o : HO} (e : H D = some (.lst l)) (h : AtN H v i) : AtN (upd H D o) v i := by
  have k : ∀ {b us}, H b = some (.tup us) → (upd H D o) b = some (.tup us) := fun {b us} q => by
    rw [upd_ne (ne_of q e (by intro z; cases z))]
    exact q
  cases i with
  | I n => exact h
  | T t =>
    obtain ⟨r, q, h⟩ := h
    exact ⟨r, q, k h⟩
  | M m =>
    obtain ⟨r, r1, r2, q, h0, h1, h2⟩ := h
    exact ⟨r, r1, r2, q, k h0, k h1, k h2⟩
theorem atN_dp {H : Hp} {v : V} {i : Itm} (h : AtN H v i) : Dp K H v i.dat := by
  cases i with
  | I n => cases (show v = V.int n from h); exact .int n
  | T t =>
    obtain ⟨r, rfl, h⟩ := h
    exact .tup (SqT.of h) (.cons (.int _) (.cons (.int _) (.cons (.int _) .nil)))
  | M m =>
    obtain ⟨r, r1, r2, rfl, h0, h1, h2⟩ := h
    exact .tup (SqT.of h0) (.cons (.tup (SqT.of h1) (.cons (.int _) (.cons (.int _) .nil))) (.cons (.tup (SqT.of h2) (.cons (.int _) (.cons (.int _) .nil))) .nil))
def AtsN (H : Hp) : List V → List Itm → Prop
  | [], [] => True
  | v :: vs, i :: is => AtN H v i ∧ AtsN H vs is
  | _, _ => False
def AtsK (K : PySem.W.Frag) (H : Hp) : List V → List Itm → Prop
  | [], [] => True
  | v :: vs, i :: is => AtK K H v i ∧ AtsK K H vs is
  | _, _ => False
theorem atsN_same {H H' : Hp} (s : Same H H') : ∀ {vs : List V} {is : List Itm}, AtsN H vs is → AtsN H' vs is
  | [], [], _ => trivial
  | _ :: _, _ :: _, ⟨h, hs⟩ => ⟨atN_same s h, atsN_same s hs⟩
  | [], _ :: _, h => h.elim
  | _ :: _, [], h => h.elim
theorem atsN_L {H : Hp} {D : Addr} {l : List V} {o : HO} (e : H D = some (.lst l)) : ∀ {vs : List V} {is : List Itm}, AtsN H vs is → AtsN (upd H D o) vs is
  | [], [], _ => trivial
  | _ :: _, _ :: _, ⟨h, hs⟩ => ⟨atN_L e h, atsN_L e hs⟩
  | [], _ :: _, h => h.elim
  | _ :: _, [], h => h.elim
theorem atsN_snoc {H : Hp} {v : V} {i : Itm} (h : AtN H v i) : ∀ {vs : List V} {is : List Itm}, AtsN H vs is → AtsN H (vs ++ [v]) (is ++ [i])
  | [], [], _ => ⟨h, trivial⟩
  | _ :: _, _ :: _, ⟨g, gs⟩ => ⟨g, atsN_snoc h gs⟩
  | [], _ :: _, g => g.elim
  | _ :: _, [], g => g.elim
theorem atsN_len {H : Hp} : ∀ {vs : List V} {is : List Itm}, AtsN H vs is → vs.length = is.length
  | [], [], _ => rfl
  | _ :: _, _ :: _, ⟨_, gs⟩ => by rw [List.length_cons, List.length_cons, atsN_len gs]
  | [], _ :: _, g => g.elim
  | _ :: _, [], g => g.elim
theorem atsN_K {H : Hp} : ∀ {vs : List V} {is : List Itm}, AtsN H vs is → AtsK K H vs is
  | [], [], _ => trivial
  | _ :: _, _ :: _, ⟨g, gs⟩ => ⟨atN_K g, atsN_K gs⟩
  | [], _ :: _, g => g.elim
  | _ :: _, [], g => g.elim
theorem atsK_get {H : Hp} : ∀ {vs : List V} {is : List Itm} {j : Nat} {v : V}, AtsK K H vs is → vs[j]? = some v → ∃ i, is[j]? = some i ∧ AtK K H v i
  | v :: vs, i :: is, 0, u, ⟨g, _⟩, e => by
    cases e
    exact ⟨i, rfl, g⟩
  | v :: vs, i :: is, j + 1, u, ⟨_, gs⟩, e => by
    rw [List.getElem?_cons_succ] at e ⊢
    exact atsK_get gs e
  | [], [], _, _, _, e => by simp at e
  | [], _ :: _, _, _, g, _ => g.elim
  | _ :: _, [], _, _, g, _ => g.elim
theorem atsN_get {H : Hp} : ∀ {vs : List V} {is : List Itm} {j : Nat} {v : V}, AtsN H vs is → vs[j]? = some v → ∃ i, is[j]? = some i ∧ AtN H v i
  | v :: vs, i :: is, 0, u, ⟨g, _⟩, e => by
    cases e
    exact ⟨i, rfl, g⟩
  | v :: vs, i :: is, j + 1, u, ⟨_, gs⟩, e => by
    rw [List.getElem?_cons_succ] at e ⊢
    exact atsN_get gs e
  | [], [], _, _, _, e => by simp at e
  | [], _ :: _, _, _, g, _ => g.elim
  | _ :: _, [], _, _, g, _ => g.elim
theorem atsN_dp {H : Hp} : ∀ {vs : List V} {is : List Itm}, AtsN H vs is → DpAll K H vs (is.map Itm.dat)
  | [], [], _ => .nil
  | _ :: _, _ :: _, ⟨g, gs⟩ => .cons (atN_dp g) (atsN_dp gs)
  | [], _ :: _, g => g.elim
  | _ :: _, [], g => g.elim
theorem lay_I (i : Itm) : PyData.canLay0 i.dat = true := by cases i <;> rfl
theorem lay_Is : ∀ is : List Itm, PyData.canLayAll0 (is.map Itm.dat) = true
  | [] => rfl
  | i :: is => by
    show (PyData.canLay0 i.dat && PyData.canLayAll0 (is.map Itm.dat)) = true
    rw [lay_I, lay_Is is]
    rfl
theorem dep_I (i : Itm) : PyData.depth i.dat ≤ 10 := by cases i <;> (show _ ≤ 10; simp [Itm.dat, dT3, dM, PyData.depth, PyData.depthAll])
theorem dep_Is : ∀ is : List Itm, PyData.depthAll (is.map Itm.dat) ≤ 10
  | [] => by simp [PyData.depthAll]
  | i :: is => by
    show max (PyData.depth i.dat) (PyData.depthAll (is.map Itm.dat)) ≤ 10
    have := dep_I i
    have := dep_Is is
    omega
theorem shaped_Is (is : List Itm) : SeqAt.shaped (.tuple (is.map Itm.dat)) = true := by
  unfold SeqAt.shaped
  have a : PyData.canLay0 (.tuple (is.map Itm.dat)) = true := lay_Is is
  have b : PyData.depth (.tuple (is.map Itm.dat)) ≤ 64 := by
    have := dep_Is is
    show PyData.depthAll (is.map Itm.dat) + 1 ≤ 64
    omega
  rw [a, decide_eq_true b]
  rfl
theorem eqv_Is (is : List Itm) : PyData.eqv (.tuple (is.map Itm.dat)) (.tuple (is.map Itm.dat)) = true := SeqAt.eqv_refl _ (SeqAt.canLay_of_shaped (shaped_Is is))
/-- a tuple at an address, of such items -/
theorem dp_Is {H : Hp} {r : Addr} {vs : List V} {is : List Itm} (h : H r = some (.tup vs)) (g : AtsN H vs is) : Dp K H (.ref r) (.tuple (is.map Itm.dat)) := .tup (SqT.of h) (atsN_dp g)
end

section
variable {P : Program} {w : World} {K : PySem.W.Frag} {mg : Str → Option Value} {base : Heap} {CM CR : Addr}
abbrev s__law_plain : Stmt := top 44
theorem sc__law_plain : FnScope ["value", "item"] ["value"] (defScope s__law_plain) := ⟨rfl, rfl, rfl, by decide +kernel, rfl, by decide +kernel, by decide +kernel⟩

def spPlainI : Sp := fun vs H Q _ => ∃ n : Int, vs = [.int n] ∧ Q (.int n) H
theorem cal_plain (D : Dn K mg "_law_plain" s__law_plain ["value"]) (B : Bl mg) (c__law_whole : Cal P w K mg base "_law_whole" 1 ["value"] (spInt K)) : Cal P w K mg base "_law_plain" 2 ["value"] spPlainI := by
  refine D.cal sc__law_plain (fun vs H Q E h => ?_) (fun f cdv A outer s H vs Q E hr h => ?_)
  · obtain ⟨n, rfl, _⟩ := h
    rfl
  · obtain ⟨n, rfl, q⟩ := h
    refine ⟨_, (pss_cons (ps_if (pt_val (pe_callB call_isi rfl B.isinstance (by decide +kernel) (pa_cons (pv 0) (pa_cons (pe_bltn (v := .ty "tuple") rfl B.tuple boot_tuple rfl) pa_nil)))) pss_never pss_nil)
  (pss_one (ps_ret (pe_ifExp (PW.pt (pw_or (pt_cmpR op_isN (pv 0) pe_non (nomark _)) (pw_or1 (pt_val (pe_cal c__law_whole (hr.mono (by decide)) rfl (pa_cons (pv 0) pa_nil)))))) (pv 0) pe_str)))), ?_⟩
    walk_at "rd"
    refine isi_mk (.base (.int n)) (b := false) (by decide +kernel) ⟨false, rfl, ?_⟩
    rw [if_neg Bool.false_ne_true]
    refine ⟨.int n, "int", rfl, .base (.int n), by decide, true, rfl, ?_⟩
    rw [if_pos rfl]
    exact q
/-- a tuple of ints -/
def spPlainN (K : PySem.W.Frag) : Sp := fun vs H Q _ => ∃ (r : Addr) (ns : List Int), vs = [.ref r] ∧ SqT K H r (ns.map V.int) ∧ ns.length ≤ 10 ∧ ∀ p H', Same H H' → H p = none → H' p = some (.tup (ns.map V.int)) → Q (.ref p) H'
theorem cal_plainN (D : Dn K mg "_law_plain" s__law_plain ["value"]) (B : Bl mg) (c__law_plain : Cal P w K mg base "_law_plain" 2 ["value"] spPlainI) (c__law_whole : Cal P w K mg base "_law_whole" 1 ["value"] (spInt K)) : Cal P w K mg base "_law_plain" 3 ["value"] (spPlainN K) := by
  refine D.cal sc__law_plain (fun vs H Q E h => ?_) (fun f cdv A outer s H vs Q E hr h => ?_)
  · obtain ⟨r, ns, rfl, _⟩ := h
    rfl
  · obtain ⟨r, ns, rfl, ht, hl, q⟩ := h
    refine ⟨_, (pss_cons (ps_if (pt_val (pe_callB call_isi rfl B.isinstance (by decide +kernel) (pa_cons (pv 0) (pa_cons (pe_bltn (v := .ty "tuple") rfl B.tuple boot_tuple rfl) pa_nil)))) (pss_one (ps_ret (pe_callTy cr_tupOf rfl B.tuple boot_tuple (pa_cons (pe_lc (own := [("item", 1)]) rfl sc__law_plain.nd (pi_tup (pv 0)) (blkOk_by (N := ["value", "item"]) (sc := defScope s__law_plain) (own := [("item", 1)]) (by decide +kernel)) (fun _ _ _ _ _ => (pg_name (i := 1) sc__law_plain.nd rfl (Or.inl rfl))) (fun _ _ _ _ _ => pts_nil) (fun _ _ _ _ _ => (pe_cal c__law_plain (hr.mono (by decide)) rfl (pa_cons (pv 1) pa_nil)))) pa_nil)))) pss_nil)
  (pss_one (ps_ret (pe_ifExp (PW.pt (pw_or (pt_cmpR op_isN (pv 0) pe_non (nomark _)) (pw_or1 (pt_val (pe_cal c__law_whole (hr.mono (by decide)) rfl (pa_cons (pv 0) pa_nil)))))) (pv 0) pe_str)))), ?_⟩
    walk_at "rd"
    refine isi_mk (sqT_ty ht) (b := true) (by decide +kernel) ⟨true, rfl, ?_⟩
    rw [if_pos rfl]
    refine ⟨⟨_, ht⟩, LcT.w (xs := ns.map V.int) (fun i D zs H3 => zs = (ns.take i).map V.int ∧ Same H H3 ∧ H3 D = some (.lst zs) ∧ H D = none) (fun D nD => ⟨rfl, same_upd nD, upd_same, nD⟩) ?_ ?_ ?_⟩
    · rintro D i zs H3 _ ⟨_, sm, _, _⟩
      exact sqT_same sm ht
    · rintro D i v zs H3 hv ⟨rfl, sm, hD, nD⟩ N hN
      rw [List.getElem?_map] at hv
      obtain ⟨n, hn, rfl⟩ := Option.map_eq_some_iff.mp hv
      have hi : i < ns.length := (List.getElem?_eq_some_iff.mp hn).1
      walk_at "rd"
      refine ⟨n, rfl, _, hD, ?_, hN _ _ ⟨?_, same_at sm nD, upd_same, nD⟩⟩
      · rw [List.length_map, List.length_take]
        exact small_size (by omega)
      · rw [List.take_add_one, hn, List.map_append]
        rfl
    · rintro D zs H3 nD ⟨rfl, sm, hD, _⟩
      try walk_at "rd"
      rw [List.length_map, List.take_length] at hD
      exact ⟨_, .inl ⟨SqL.of hD, fun l nl => q l _ (sm.trans (same_upd nl)) (sm.free nl) upd_same⟩⟩
/-- an int, a triple or a matrix -/
def spItem (K : PySem.W.Frag) : Sp := fun vs H Q _ => ∃ (v : V) (i : Itm), vs = [v] ∧ AtK K H v i ∧ ∀ v' H', Same H H' → AtN H' v' i → Q v' H'
theorem cal_item (D : Dn K mg "_law_plain" s__law_plain ["value"]) (B : Bl mg) (c__law_whole : Cal P w K mg base "_law_whole" 1 ["value"] (spInt K)) (cI : Cal P w K mg base "_law_plain" 2 ["value"] spPlainI) (cN : Cal P w K mg base "_law_plain" 3 ["value"] (spPlainN K)) : Cal P w K mg base "_law_plain" 4 ["value"] (spItem K) := by
  refine D.cal sc__law_plain (fun vs H Q E h => ?_) (fun f cdv A outer s H vs Q E hr h => ?_)
  · obtain ⟨v, i, rfl, _⟩ := h
    rfl
  · obtain ⟨v, i, rfl, hA, q⟩ := h
    cases i with
    | I n =>
      cases (show v = V.int n from hA)
      refine ⟨_, (pss_cons (ps_if (pt_val (pe_callB call_isi rfl B.isinstance (by decide +kernel) (pa_cons (pv 0) (pa_cons (pe_bltn (v := .ty "tuple") rfl B.tuple boot_tuple rfl) pa_nil)))) pss_never pss_nil)
  (pss_one (ps_ret (pe_ifExp (PW.pt (pw_or (pt_cmpR op_isN (pv 0) pe_non (nomark _)) (pw_or1 (pt_val (pe_cal c__law_whole (hr.mono (by decide)) rfl (pa_cons (pv 0) pa_nil)))))) (pv 0) pe_str)))), ?_⟩
      walk_at "rd"
      refine isi_mk (.base (.int n)) (b := false) (by decide +kernel) ⟨false, rfl, ?_⟩
      rw [if_neg Bool.false_ne_true]
      refine ⟨.int n, "int", rfl, .base (.int n), by decide, true, rfl, ?_⟩
      rw [if_pos rfl]
      exact q _ _ (Same.refl H) rfl
    | T t =>
      obtain ⟨r, rfl, ht⟩ := hA
      have c__law_plain := cI
      refine ⟨_, (pss_cons (ps_if (pt_val (pe_callB call_isi rfl B.isinstance (by decide +kernel) (pa_cons (pv 0) (pa_cons (pe_bltn (v := .ty "tuple") rfl B.tuple boot_tuple rfl) pa_nil)))) (pss_one (ps_ret (pe_callTy cr_tupOf rfl B.tuple boot_tuple (pa_cons (pe_lc (own := [("item", 1)]) rfl sc__law_plain.nd (pi_tup (pv 0)) (blkOk_by (N := ["value", "item"]) (sc := defScope s__law_plain) (own := [("item", 1)]) (by decide +kernel)) (fun _ _ _ _ _ => (pg_name (i := 1) sc__law_plain.nd rfl (Or.inl rfl))) (fun _ _ _ _ _ => pts_nil) (fun _ _ _ _ _ => (pe_cal c__law_plain (hr.mono (by decide)) rfl (pa_cons (pv 1) pa_nil)))) pa_nil)))) pss_nil)
  (pss_one (ps_ret (pe_ifExp (PW.pt (pw_or (pt_cmpR op_isN (pv 0) pe_non (nomark _)) (pw_or1 (pt_val (pe_cal c__law_whole (hr.mono (by decide)) rfl (pa_cons (pv 0) pa_nil)))))) (pv 0) pe_str)))), ?_⟩
      walk_at "rd"
      refine isi_mk (.base (.tup ht)) (b := true) (by decide +kernel) ⟨true, rfl, ?_⟩
      rw [if_pos rfl]
      refine ⟨⟨_, SqT.of ht⟩, LcT.w (xs := ([t.1, t.2.1, t.2.2] : List Int).map V.int) (fun i D zs H3 => zs = (([t.1, t.2.1, t.2.2] : List Int).take i).map V.int ∧ Same H H3 ∧ H3 D = some (.lst zs) ∧ H D = none) (fun D nD => ⟨rfl, same_upd nD, upd_same, nD⟩) ?_ ?_ ?_⟩
      · rintro D i zs H3 _ ⟨_, sm, _, _⟩
        exact SqT.of (sm _ _ ht)
      · rintro D i v zs H3 hv ⟨rfl, sm, hD, nD⟩ N hN
        rw [List.getElem?_map] at hv
        obtain ⟨n, hn, rfl⟩ := Option.map_eq_some_iff.mp hv
        have hi : i < 3 := (List.getElem?_eq_some_iff.mp hn).1
        walk_at "rd"
        refine ⟨n, rfl, _, hD, ?_, hN _ _ ⟨?_, same_at sm nD, upd_same, nD⟩⟩
        · rw [List.length_map, List.length_take]
          exact small_size (by omega)
        · rw [List.take_add_one, hn, List.map_append]
          rfl
      · rintro D zs H3 nD ⟨rfl, sm, hD, _⟩
        try walk_at "rd"
        exact ⟨_, .inl ⟨SqL.of hD, fun l nl => q _ _ (sm.trans (same_upd nl)) ⟨l, rfl, upd_same⟩⟩⟩
    | M m =>
      obtain ⟨r, r1, r2, rfl, h0, h1, h2⟩ := hA
      have c__law_plain := cN
      refine ⟨_, (pss_cons (ps_if (pt_val (pe_callB call_isi rfl B.isinstance (by decide +kernel) (pa_cons (pv 0) (pa_cons (pe_bltn (v := .ty "tuple") rfl B.tuple boot_tuple rfl) pa_nil)))) (pss_one (ps_ret (pe_callTy cr_tupOf rfl B.tuple boot_tuple (pa_cons (pe_lc (own := [("item", 1)]) rfl sc__law_plain.nd (pi_tup (pv 0)) (blkOk_by (N := ["value", "item"]) (sc := defScope s__law_plain) (own := [("item", 1)]) (by decide +kernel)) (fun _ _ _ _ _ => (pg_name (i := 1) sc__law_plain.nd rfl (Or.inl rfl))) (fun _ _ _ _ _ => pts_nil) (fun _ _ _ _ _ => (pe_cal c__law_plain (hr.mono (by decide)) rfl (pa_cons (pv 1) pa_nil)))) pa_nil)))) pss_nil)
  (pss_one (ps_ret (pe_ifExp (PW.pt (pw_or (pt_cmpR op_isN (pv 0) pe_non (nomark _)) (pw_or1 (pt_val (pe_cal c__law_whole (hr.mono (by decide)) rfl (pa_cons (pv 0) pa_nil)))))) (pv 0) pe_str)))), ?_⟩
      walk_at "rd"
      refine isi_mk (sqT_ty h0) (b := true) (by decide +kernel) ⟨true, rfl, ?_⟩
      rw [if_pos rfl]
      refine ⟨⟨_, h0⟩, LcT.w (xs := [V.ref r1, V.ref r2]) (fun i D zs H3 => Same H H3 ∧ H3 D = some (.lst zs) ∧ H D = none ∧ zs.length = i ∧ ∀ (j : Nat) (v : V) (p : Int × Int), zs[j]? = some v → [m.1, m.2][j]? = some p → ∃ u, v = V.ref u ∧ H3 u = some (.tup [.int p.1, .int p.2])) (fun D nD => ⟨same_upd nD, upd_same, nD, rfl, fun j v p hj => by simp at hj⟩) ?_ ?_ ?_⟩
      · rintro D i zs H3 _ ⟨sm, _, _, _⟩
        exact sqT_same sm h0
      · rintro D i v zs H3 hv ⟨sm, hD, nD, hl, hz⟩ N hN
        have hi : i < 2 := (List.getElem?_eq_some_iff.mp hv).1
        have src : ∃ t q, v = .ref t ∧ SqT K H t ([q.1, q.2].map V.int) ∧ [m.1, m.2][i]? = some q := by
          have c : i = 0 ∨ i = 1 := by omega
          rcases c with rfl | rfl
          · cases hv
            exact ⟨r1, m.1, rfl, h1, rfl⟩
          · cases hv
            exact ⟨r2, m.2, rfl, h2, rfl⟩
        obtain ⟨t, qq, rfl, ht, hq⟩ := src
        walk_at "rd"
        refine ⟨t, [qq.1, qq.2], rfl, sqT_same sm ht, by show 2 ≤ 10; decide, fun p' H4 s4 np hp4 => ⟨zs, s4 _ _ hD, small_size (by omega), hN _ _ ⟨same_at (sm.trans s4) nD, upd_same, nD, by rw [List.length_append, hl]; rfl, fun j v p hj hp => ?_⟩⟩⟩
        have keep : ∀ {b us}, H4 b = some (.tup us) → (upd H4 D (.lst (zs ++ [V.ref p']))) b = some (.tup us) := fun {b us} e => by
          rw [upd_ne (ne_of e (s4 _ _ hD) (by intro z; cases z))]
          exact e
        by_cases c : j < zs.length
        · rw [List.getElem?_append_left c] at hj
          obtain ⟨u, e, h⟩ := hz j v p hj hp
          exact ⟨u, e, keep (s4 _ _ h)⟩
        · have jl : j < zs.length + 1 := by
            have := (List.getElem?_eq_some_iff.mp hj).1
            rw [List.length_append] at this
            exact this
          have je : j = i := by omega
          subst je
          rw [hq] at hp
          cases hp
          rw [List.getElem?_append_right (by omega), show j - zs.length = 0 by omega] at hj
          cases hj
          exact ⟨p', rfl, keep hp4⟩
      · rintro D zs H3 nD ⟨sm, hD, _, hl, hz⟩
        try walk_at "rd"
        have hl : zs.length = 2 := hl
        match zs, hl, hz, hD with
        | [x, y], _, hz, hD =>
          obtain ⟨u1, rfl, g1⟩ := hz 0 x m.1 rfl rfl
          obtain ⟨u2, rfl, g2⟩ := hz 1 y m.2 rfl rfl
          exact ⟨_, .inl ⟨SqL.of hD, fun l nl => q _ _ (sm.trans (same_upd nl)) ⟨l, u1, u2, rfl, upd_same, same_upd nl _ _ g1, same_upd nl _ _ g2⟩⟩⟩
/-- a tuple of these -/
def spTup (K : PySem.W.Frag) : Sp := fun vs H Q _ => ∃ (r : Addr) (xs : List V) (is : List Itm), vs = [.ref r] ∧ SqT K H r xs ∧ AtsK K H xs is ∧ xs.length ≤ 10000000 ∧ ∀ p ys H', Same H H' → H p = none → H' p = some (.tup ys) → AtsN H' ys is → Q (.ref p) H'
theorem atsK_len {H : Hp} : ∀ {vs : List V} {is : List Itm}, AtsK K H vs is → vs.length = is.length
  | [], [], _ => rfl
  | _ :: _, _ :: _, ⟨_, gs⟩ => by rw [List.length_cons, List.length_cons, atsK_len gs]
  | [], _ :: _, g => g.elim
  | _ :: _, [], g => g.elim
theorem cal_tup (D : Dn K mg "_law_plain" s__law_plain ["value"]) (B : Bl mg) (c__law_plain : Cal P w K mg base "_law_plain" 4 ["value"] (spItem K)) (c__law_whole : Cal P w K mg base "_law_whole" 1 ["value"] (spInt K)) : Cal P w K mg base "_law_plain" 5 ["value"] (spTup K) := by
  refine D.cal sc__law_plain (fun vs H Q E h => ?_) (fun f cdv A outer s H vs Q E hr h => ?_)
  · obtain ⟨r, xs, is, rfl, _⟩ := h
    rfl
  · obtain ⟨r, xs, is, rfl, h0, hA, hl, q⟩ := h
    refine ⟨_, (pss_cons (ps_if (pt_val (pe_callB call_isi rfl B.isinstance (by decide +kernel) (pa_cons (pv 0) (pa_cons (pe_bltn (v := .ty "tuple") rfl B.tuple boot_tuple rfl) pa_nil)))) (pss_one (ps_ret (pe_callTy cr_tupOf rfl B.tuple boot_tuple (pa_cons (pe_lc (own := [("item", 1)]) rfl sc__law_plain.nd (pi_tup (pv 0)) (blkOk_by (N := ["value", "item"]) (sc := defScope s__law_plain) (own := [("item", 1)]) (by decide +kernel)) (fun _ _ _ _ _ => (pg_name (i := 1) sc__law_plain.nd rfl (Or.inl rfl))) (fun _ _ _ _ _ => pts_nil) (fun _ _ _ _ _ => (pe_cal c__law_plain (hr.mono (by decide)) rfl (pa_cons (pv 1) pa_nil)))) pa_nil)))) pss_nil)
  (pss_one (ps_ret (pe_ifExp (PW.pt (pw_or (pt_cmpR op_isN (pv 0) pe_non (nomark _)) (pw_or1 (pt_val (pe_cal c__law_whole (hr.mono (by decide)) rfl (pa_cons (pv 0) pa_nil)))))) (pv 0) pe_str)))), ?_⟩
    walk_at "rd"
    refine isi_mk (sqT_ty h0) (b := true) (by decide +kernel) ⟨true, rfl, ?_⟩
    rw [if_pos rfl]
    refine ⟨⟨_, h0⟩, LcT.w (xs := xs) (fun i D zs H3 => Same H H3 ∧ H3 D = some (.lst zs) ∧ H D = none ∧ AtsN H3 zs (is.take i)) (fun D nD => ⟨same_upd nD, upd_same, nD, trivial⟩) ?_ ?_ ?_⟩
    · rintro D i zs H3 _ ⟨sm, _, _, _⟩
      exact sqT_same sm h0
    · rintro D i v zs H3 hv ⟨sm, hD, nD, hz⟩ N hN
      have hi : i < xs.length := (List.getElem?_eq_some_iff.mp hv).1
      obtain ⟨it', he, hk⟩ := atsK_get hA hv
      have hzl := atsN_len hz
      rw [List.length_take] at hzl
      walk_at "rd"
      refine ⟨v, it', rfl, atK_same sm hk, fun v' H4 s4 hv' => ⟨zs, s4 _ _ hD, small_size (by omega), hN _ _ ⟨same_at (sm.trans s4) nD, upd_same, nD, ?_⟩⟩⟩
      rw [List.take_add_one, he]
      exact atsN_L (s4 _ _ hD) (atsN_snoc hv' (atsN_same s4 hz))
    · rintro D zs H3 nD ⟨sm, hD, _, hz⟩
      try walk_at "rd"
      rw [atsK_len hA, List.take_length] at hz
      exact ⟨_, .inl ⟨SqL.of hD, fun l nl => q l zs _ (sm.trans (same_upd nl)) (sm.free nl) upd_same (atsN_same (same_upd nl) hz)⟩⟩
abbrev s__law_no_word : Stmt := top 41
theorem sc__law_no_word : FnScope ["value"] ["value"] (defScope s__law_no_word) := ⟨rfl, rfl, rfl, by decide +kernel, rfl, by decide +kernel, by decide +kernel⟩

def spNoWord (K : PySem.W.Frag) : Sp := fun vs H Q _ => ∃ (v : V) (T : String), vs = [v] ∧ TyX K H v (.type T) ∧ T ∈ kinds ∧ (T == "str") = false ∧ Q v H
theorem cal_no_word (D : Dn K mg "_law_no_word" s__law_no_word ["value"]) (B : Bl mg) : Cal P w K mg base "_law_no_word" 1 ["value"] (spNoWord K) := by
  refine D.cal sc__law_no_word (fun vs H Q E h => ?_) (fun f cdv A outer s H vs Q E hr h => ?_)
  · obtain ⟨v, T, rfl, _⟩ := h
    rfl
  · obtain ⟨v, T, rfl, ty, hT, hs, q⟩ := h
    refine ⟨_, (pss_one (ps_ret (pe_ifExp (pt_val (pe_callB call_isi rfl B.isinstance (by decide +kernel) (pa_cons (pv 0) (pa_cons (pe_bltn (v := .ty "str") rfl B.str boot_str rfl) pa_nil)))) pe_str (pv 0)))), ?_⟩
    walk_at "rd"
    refine isi_mk ty (kit_k hT (by simp)) ⟨false, ?_, ?_⟩
    · rw [hs, show ("str" == "int") = false by decide, Bool.and_false, Bool.or_false]
    rw [if_neg Bool.false_ne_true]
    exact q
end

section
variable {P : Program} {w : World} {K : PySem.W.Frag} {mg : Str → Option Value} {base : Heap} {CM CR aU a1 a2 : Addr}
/-! ### division by any number -/
def CDivA (i j : Int) : Prop := j ≠ 0 ∧ j.natAbs.log2 < 9000
theorem op_fdivA {X : Cx} : OpR X (binaryOp .FloorDiv) (rI CDivA fun i j => .int (i.fdiv j)) := opI fun _ _ _ _ _ _ _ hc q => floordiv_int hc.1 q (.inl (PyProof.noPylong_of_log2 hc.2))
theorem divA {n : Nat} {i j : Int} (h : j ≠ 0) (s : Sz (n + 1) j) (hn : n < 9000) : CDivA i j := ⟨h, Nat.lt_of_le_of_lt (log_lt (k := n) s) hn⟩
theorem fdiv_t {s b c : Int} (hc : c ≠ 0) : (b + newB s b c).fdiv (2 * c) = newT s b c := by
  rw [newT_eq hc, Int.mul_fdiv_cancel_left _ (by omega)]
/-- a form of D, not too great -/
def Good (D s : Int) (f : T3) : Prop := Frm D s f ∧ Sz 410 f.1 ∧ Sz 410 f.2.1 ∧ Sz 410 f.2.2 ∧ Sz 410 s
theorem Good.new {D s : Int} {f : T3} (h : Good D s f) : Sz 410 (newB s f.2.1 f.2.2) ∧ Sz 412 (newT s f.2.1 f.2.2) := by
  obtain ⟨hf, za, zb, zc, zs⟩ := h
  have nb := newB_bd (b := f.2.1) hf.c hf.2.1
  have s0 := hf.2.1
  have z : Sz 410 (newB s f.2.1 f.2.2) := by
    unfold Sz at *
    split at nb <;> omega
  refine ⟨z, ?_⟩
  have := newT_bd (s := s) (b := f.2.1) (c := f.2.2) (m := 2 ^ 410) hf.c (by unfold Sz at zb; omega) (by unfold Sz at z; omega)
  unfold Sz
  omega
theorem z3_2 : Sz 3 2 := by unfold Sz; decide
abbrev s_check_indefinite : Stmt := top 26
theorem sc_check_indefinite : FnScope ["f"] ["f"] (defScope s_check_indefinite) := ⟨rfl, rfl, rfl, by decide +kernel, rfl, by decide +kernel, by decide +kernel⟩

/-- no indefinite form -/
def NotIn (K : PySem.W.Frag) (H : Hp) (v : V) : Prop := NotF K H v ∨ ∃ (p : Addr) (a b c : Int), v = .ref p ∧ H p = some (.tup [.int a, .int b, .int c]) ∧ formB a b c = true ∧ dsc a b c < 0
/-- an indefinite form -/
def IsIn (H : Hp) (v : V) (f : T3) : Prop := ∃ p, v = .ref p ∧ H p = some (.tup [.int f.1, .int f.2.1, .int f.2.2]) ∧ formB f.1 f.2.1 f.2.2 = true ∧ 0 < dsc f.1 f.2.1 f.2.2
theorem IsIn.same {H H' : Hp} {v : V} {f : T3} (s : Same H H') (h : IsIn H v f) : IsIn H' v f := by
  obtain ⟨p, e, hp, h⟩ := h
  exact ⟨p, e, s _ _ hp, h⟩
def OrI (K : PySem.W.Frag) (CM : Addr) (H : Hp) (v : V) (E : XK) (G : T3 → Prop) : Prop := (NotIn K H v ∧ ∀ H', Same H H' → E (.ref CM) none H') ∨ ∃ f, IsIn H v f ∧ G f
/-- the whole root of a form's discriminant -/
theorem form_rt {a b c : Int} (h : formB a b c = true) (hd : 0 < dsc a b c) : Rt (dsc a b c) (isq (dsc a b c)) := by
  unfold formB at h
  simp only [Bool.and_eq_true] at h
  have hD := h.2.1
  unfold discB sqB at hD
  simp only [Bool.and_eq_true, Bool.not_eq_true', decide_eq_false_iff_not] at hD
  have h1 := isq_le (n := dsc a b c) (by omega)
  have h2 := isq_lt (n := dsc a b c) (by omega)
  refine ⟨isq_nn _, ?_, h2⟩
  rcases Int.lt_or_le (isq (dsc a b c) * isq (dsc a b c)) (dsc a b c) with z | z
  · exact z
  · exact absurd ⟨by omega, by omega⟩ hD.2
theorem IsIn.good {H : Hp} {v : V} {f : T3} (h : IsIn H v f) : Good (dsc f.1 f.2.1 f.2.2) (isq (dsc f.1 f.2.1 f.2.2)) f ∧ IntMulOk f.2.1 f.2.1 ∧ IntMulOk (4 * f.1) f.2.2 ∧ dsc f.1 f.2.1 f.2.2 < BIG := by
  obtain ⟨p, e, hp, hf, hd⟩ := h
  obtain ⟨za, zb, zc⟩ := form_sz (form_lg hf)
  obtain ⟨ba, bb, bc⟩ := lgB_no (form_lg hf)
  obtain ⟨m1, m2, d1, d2⟩ := dsc_bd ba bb bc
  have rt := form_rt hf hd
  refine ⟨⟨⟨rfl, rt⟩, za.le (by decide), zb.le (by decide), zc.le (by decide), ?_⟩, m1, m2, d1⟩
  have z4 : Sz 3 4 := by unfold Sz; decide
  have zD : Sz 404 (dsc f.1 f.2.1 f.2.2) := ((zb.mul zb).le (by decide : 400 ≤ 403)).sub ((z4.mul za).mul zc)
  have := rt.le
  have := rt.1
  unfold Sz at *
  omega
def spInd (K : PySem.W.Frag) (CM : Addr) : Sp := fun vs H Q E => ∃ v : V, vs = [v] ∧ OrI K CM H v E fun _ => ∀ H', Same H H' → Q .non H'
theorem cal_ind (D : Dn K mg "check_indefinite" s_check_indefinite ["f"]) (B : Bl mg) (c_check_form : CalX P w K mg base "check_form" 4 ["f"] (spChkF K CM)) (c_told_discriminant : Cal P w K mg base "told_discriminant" 1 ["f"] spTDisc) (e_E : ErrI P w K mg base CM CR) :
    CalX P w K mg base "check_indefinite" 5 ["f"] (spInd K CM) := by
  refine D.calX sc_check_indefinite (fun vs H Q E h => ?_) (fun f cdv A outer s H vs Q E hr h => ?_)
  · obtain ⟨v, rfl, _⟩ := h
    rfl
  · obtain ⟨v, rfl, h⟩ := h
    refine ⟨_, (pss_cons (ps_expr (pe_calS c_check_form (takes_of rfl rfl rfl rfl) (hr.mono (by decide)) rfl (pa_cons (pv 0) pa_nil)))
  (pss_one (ps_if (pt_cmpR op_lt (pe_cal c_told_discriminant (hr.mono (by decide)) rfl (pa_cons (pv 0) pa_nil)) pe_int (nomark _)) (pss_one (ps_mal e_E.m rfl (takes_of rfl rfl rfl rfl) rfl)) pss_nil))), ?_⟩
    walk_at "rd"
    refine ⟨v, rfl, ?_⟩
    rcases h with ⟨hn | ⟨p, a, b, c, rfl, hp, hf, hd⟩, q⟩ | ⟨f, hI, q⟩
    · exact .inl ⟨hn, fun H' sm => q H' sm⟩
    · obtain ⟨ba, bb, bc⟩ := lgB_no (form_lg hf)
      obtain ⟨m1, m2, _, _⟩ := dsc_bd ba bb bc
      exact .inr ⟨p, a, b, c, rfl, hp, hf, fun H' sm => ⟨p, a, b, c, rfl, sm _ _ hp, m1, m2, _, rfl, by rw [if_pos (show b * b - 4 * a * c < 0 from hd)]; exact q H' sm⟩⟩
    · have hg := hI.good
      obtain ⟨p, rfl, hp, hf, hd⟩ := hI
      exact .inr ⟨p, _, _, _, rfl, hp, hf, fun H' sm => ⟨p, _, _, _, rfl, sm _ _ hp, hg.2.1, hg.2.2.1, _, rfl, by rw [if_neg (show ¬ f.2.1 * f.2.1 - 4 * f.1 * f.2.2 < 0 from by have : 0 < f.2.1 * f.2.1 - 4 * f.1 * f.2.2 := hd; omega)]; exact q H' sm⟩⟩
abbrev s__root_of : Stmt := top 28
theorem sc__root_of : FnScope ["f"] ["f"] (defScope s__root_of) := ⟨rfl, rfl, rfl, by decide +kernel, rfl, by decide +kernel, by decide +kernel⟩

def spRootOf : Sp := fun vs H Q _ => ∃ (p : Addr) (f : T3), vs = [.ref p] ∧ AtT H (.ref p) f ∧ IntMulOk f.2.1 f.2.1 ∧ IntMulOk (4 * f.1) f.2.2 ∧ 0 ≤ dsc f.1 f.2.1 f.2.2 ∧ dsc f.1 f.2.1 f.2.2 < BIG ∧ Q (.int (isq (dsc f.1 f.2.1 f.2.2))) H
theorem cal_rootof (D : Dn K mg "_root_of" s__root_of ["f"]) (B : Bl mg) (c_told_discriminant : Cal P w K mg base "told_discriminant" 1 ["f"] spTDisc) (c_root : Cal P w K mg base "root" 1 ["n", "k"] spRoot) : Cal P w K mg base "_root_of" 2 ["f"] spRootOf := by
  refine D.cal sc__root_of (fun vs H Q E h => ?_) (fun f cdv A outer s H vs Q E hr h => ?_)
  · obtain ⟨p, f, rfl, _⟩ := h
    rfl
  · obtain ⟨p, f, rfl, ⟨_, e, hp⟩, m1, m2, d0, d1, q⟩ := h
    cases e
    refine ⟨_, (pss_one (ps_ret (pe_cal c_root (hr.mono (by decide)) rfl (pa_cons (pe_cal c_told_discriminant (hr.mono (by decide)) rfl (pa_cons (pv 0) pa_nil)) (pa_cons pe_int pa_nil))))), ?_⟩
    walk_at "rd"
    exact ⟨p, _, _, _, rfl, hp, m1, m2, dsc f.1 f.2.1 f.2.2, rfl, d0, d1, q⟩
abbrev s_fits : Stmt := top 29
theorem sc_fits : FnScope ["f", "s", "a", "b", "_"] ["f", "s"] (defScope s_fits) := ⟨rfl, rfl, rfl, by decide +kernel, rfl, by decide +kernel, by decide +kernel⟩

def spFits : Sp := fun vs H Q _ => ∃ (p : Addr) (f : T3) (s : Int), vs = [.ref p, .int s] ∧ AtT H (.ref p) f ∧ Q (.bl (decide (fits s f))) H
theorem fits_key {s : Int} {f : T3} {x : Bool} {Q : V → Prop} (q : Q (.bl (decide (fits s f)))) (h : x = true ↔ fits s f) : Q (.bl x) := by
  have e : decide (fits s f) = x := by
    cases x with
    | true => exact decide_eq_true (h.mp rfl)
    | false => exact decide_eq_false fun z => by cases h.mpr z
  rw [← e]
  exact q
theorem cal_fits (D : Dn K mg "fits" s_fits ["f", "s"]) (B : Bl mg) : Cal P w K mg base "fits" 1 ["f", "s"] spFits := by
  refine D.cal sc_fits (fun vs H Q E h => ?_) (fun f cdv A outer s H vs Q E hr h => ?_)
  · obtain ⟨p, f, s, rfl, _⟩ := h
    rfl
  · obtain ⟨p, f, s', rfl, ⟨_, e, hp⟩, q⟩ := h
    cases e
    refine ⟨_, (pss_cons (ps_asg (pv 0) (pg_tup rfl (pgs_cons (pg_name (i := 2) sc_fits.nd rfl (Or.inl rfl)) (pgs_cons (pg_name (i := 3) sc_fits.nd rfl (Or.inl rfl)) (pgs_cons (pg_name (i := 4) sc_fits.nd rfl (Or.inl rfl)) pgs_nil)))))
  (pss_one (ps_ret (pe_and (pe_chain op_le op_le pe_int (pv 3) (pv 1)) (pe_and (pe_cmpR op_gt (pe_op op_add (pe_op op_mulI pe_int (pe_callB call_abs rfl B.abs (by decide +kernel) (pa_cons (pv 2) pa_nil))) (pv 3)) (pv 1) (nomark _)) (pe_one (pe_cmpR op_le (pe_op op_sub (pe_op op_mulI pe_int (pe_callB call_abs rfl B.abs (by decide +kernel) (pa_cons (pv 2) pa_nil))) (pv 3)) (pv 1) (nomark _)))))))), ?_⟩
    rw [CB.rd_seq]
    walk_at "rs"
    refine ⟨_, SqT.of hp, rfl, _, _, rfl, _, _, rfl, _, _, rfl, rfl, ?_⟩
    walk_at "rs"
    rw [iabs]
    have key : ∀ x : Bool, (x = true ↔ fits s' f) → Q (.bl x) H := fun x hx => fits_key (Q := fun v => Q v H) q hx
    have no : ¬ fits s' f → Q (.bl false) H := fun h => key false ⟨(fun z => by cases z), (fun z => absurd z h)⟩
    refine ite2 (fun c1 => ite2 (fun c2 => ⟨mulL (by decide), ite2 (fun c3 => ⟨mulL (by decide), key _ ?_⟩) (fun c3 => no (fun z => c3 z.2.2.1))⟩) (fun c2 => no (fun z => c2 z.2.1))) (fun c1 => no (fun z => c1 z.1))
    rw [decide_eq_true_eq]
    exact ⟨fun z => ⟨c1, c2, c3, z⟩, fun z => z.2.2.2⟩
abbrev s_step_from : Stmt := top 31
theorem sc_step_from : FnScope ["f", "s", "a", "b", "c", "size", "top", "new", "t"] ["f", "s"] (defScope s_step_from) := ⟨rfl, rfl, rfl, by decide +kernel, rfl, by decide +kernel, by decide +kernel⟩

def AtP (H : Hp) (q : Addr) (f : T3) (t : Int) : Prop := ∃ g, H q = some (.tup [.ref g, .int t]) ∧ AtT H (.ref g) f
def spStep : Sp := fun vs H Q _ => ∃ (p : Addr) (f : T3) (D s : Int), vs = [.ref p, .int s] ∧ AtT H (.ref p) f ∧ Good D s f ∧ ∀ q H', Same H H' → H q = none → AtP H' q (stp s f) (newT s f.2.1 f.2.2) → Q (.ref q) H'
theorem cal_step (D : Dn K mg "step_from" s_step_from ["f", "s"]) (B : Bl mg) : Cal P w K mg base "step_from" 1 ["f", "s"] spStep := by
  refine D.cal sc_step_from (fun vs H Q E h => ?_) (fun f cdv A outer s H vs Q E hr h => ?_)
  · obtain ⟨p, f, D, s, rfl, _⟩ := h
    rfl
  · obtain ⟨p, f, DD, s', rfl, ⟨_, e, hp⟩, hG, q⟩ := h
    cases e
    obtain ⟨zn, zt⟩ := hG.new
    obtain ⟨hF, za, zb, zc, zs⟩ := hG
    have hc := hF.c
    refine ⟨_, (pss_cons (ps_asg (pv 0) (pg_tup rfl (pgs_cons (pg_name (i := 2) sc_step_from.nd rfl (Or.inl rfl)) (pgs_cons (pg_name (i := 3) sc_step_from.nd rfl (Or.inl rfl)) (pgs_cons (pg_name (i := 4) sc_step_from.nd rfl (Or.inl rfl)) pgs_nil)))))
  (pss_cons (ps_set (i := 5) sc_step_from.nd rfl (Or.inl rfl) (pe_callB call_abs rfl B.abs (by decide +kernel) (pa_cons (pv 4) pa_nil)))
  (pss_cons (ps_set (i := 6) sc_step_from.nd rfl (Or.inl rfl) (pe_callB (call_max2 rfl) rfl B.max (by decide +kernel) (pa_cons (pv 5) (pa_cons (pv 1) pa_nil))))
  (pss_cons (ps_set (i := 7) sc_step_from.nd rfl (Or.inl rfl) (pe_op op_sub (pv 6) (pe_op op_mod (pe_op op_add (pv 6) (pv 3)) (pe_op op_mulI pe_int (pv 5)))))
  (pss_cons (ps_set (i := 8) sc_step_from.nd rfl (Or.inl rfl) (pe_op op_fdivA (pe_op op_add (pv 3) (pv 7)) (pe_op op_mulI pe_int (pv 4))))
  (pss_one (ps_ret (pe_tup (pa_cons (pe_tup (pa_cons (pv 4) (pa_cons (pv 7) (pa_cons (pe_op op_add (pe_op op_sub (pv 2) (pe_op op_mulI (pv 3) (pv 8))) (pe_op op_mulI (pe_op op_mulI (pv 4) (pv 8)) (pv 8))) pa_nil)))) (pa_cons (pv 8) pa_nil)))))))))), ?_⟩
    rw [CB.rd_seq]
    walk_at "rs"
    refine ⟨_, SqT.of hp, rfl, _, _, rfl, _, _, rfl, _, _, rfl, rfl, ?_⟩
    show tSeq _ _ _ _ _
    rw [CB.rd_seq]
    walk_at "rs"
    rw [CB.rd_seq]
    walk_at "rs"
    rw [CB.rd_seq]
    walk_at "rs"
    rw [iabs]
    refine ⟨mulL (by decide), by omega, ?_⟩
    rw [show ((if s' > (f.2.2.natAbs : Int) then s' else (f.2.2.natAbs : Int)) - ((if s' > (f.2.2.natAbs : Int) then s' else (f.2.2.natAbs : Int)) + f.2.1) % (2 * (f.2.2.natAbs : Int))) = newB s' f.2.1 f.2.2 from rfl]
    rw [CB.rd_seq]
    walk_at "rs"
    refine ⟨mulL (by decide), divA (n := 412) (by omega) ((z3_2.mul zc).le (by decide)) (by decide), ?_⟩
    rw [fdiv_t hc]
    refine ⟨zb.ok zt (by decide) (by decide), zc.ok zt (by decide) (by decide), (zc.mul zt).ok zt (by decide) (by decide), by decide, fun p1 n1 => ⟨by decide, fun p2 n2 => ?_⟩⟩
    exact q p2 _ ((same_upd n1).trans (same_upd n2)) ((same_upd n1).free n2) ⟨p1, upd_same, p1, rfl, same_upd n2 _ _ upd_same⟩
abbrev s_with_turn : Stmt := top 32
theorem sc_with_turn : FnScope ["m", "t", "p", "q", "r", "s"] ["m", "t"] (defScope s_with_turn) := ⟨rfl, rfl, rfl, by decide +kernel, rfl, by decide +kernel, by decide +kernel⟩

theorem wt_eq {m : M4} {t : Int} : ((m.1.2, m.1.2 * t - m.1.1), (m.2.2, m.2.2 * t - m.2.1)) = mulM m ((0, -1), (1, t)) := by
  obtain ⟨⟨p, q⟩, ⟨r, s⟩⟩ := m
  simp only [mulM, Prod.mk.injEq]
  refine ⟨⟨?_, ?_⟩, ?_, ?_⟩ <;> omega
def spTurn (K : PySem.W.Frag) : Sp := fun vs H Q _ => ∃ (v : V) (m : M4) (t : Int), vs = [v, .int t] ∧ IsK K H v m ∧ SzM 100000 m ∧ Sz 412 t ∧ ∀ q H', Same H H' → H q = none → IsM H' (.ref q) (mulM m ((0, -1), (1, t))) → Q (.ref q) H'
theorem cal_turn (D : Dn K mg "with_turn" s_with_turn ["m", "t"]) (B : Bl mg) : Cal P w K mg base "with_turn" 1 ["m", "t"] (spTurn K) := by
  refine D.cal sc_with_turn (fun vs H Q E h => ?_) (fun f cdv A outer s H vs Q E hr h => ?_)
  · obtain ⟨v, m, t, rfl, _⟩ := h
    rfl
  · obtain ⟨v, m, t, rfl, ⟨r, r1, r2, rfl, F0, F1, F2⟩, ⟨z1, z2, z3, z4⟩, zt, q⟩ := h
    refine ⟨_, (pss_cons (ps_asg (pv 0) (pg_tup rfl (pgs_cons (pg_tup rfl (pgs_cons (pg_name (i := 2) sc_with_turn.nd rfl (Or.inl rfl)) (pgs_cons (pg_name (i := 3) sc_with_turn.nd rfl (Or.inl rfl)) pgs_nil))) (pgs_cons (pg_tup rfl (pgs_cons (pg_name (i := 4) sc_with_turn.nd rfl (Or.inl rfl)) (pgs_cons (pg_name (i := 5) sc_with_turn.nd rfl (Or.inl rfl)) pgs_nil))) pgs_nil))))
  (pss_one (ps_ret (pe_tup (pa_cons (pe_tup (pa_cons (pv 3) (pa_cons (pe_op op_sub (pe_op op_mulI (pv 3) (pv 1)) (pv 2)) pa_nil))) (pa_cons (pe_tup (pa_cons (pv 5) (pa_cons (pe_op op_sub (pe_op op_mulI (pv 5) (pv 1)) (pv 4)) pa_nil))) pa_nil)))))), ?_⟩
    rw [CB.rd_seq]
    walk_at "rs"
    refine ⟨_, F0, rfl, _, _, rfl, r1, rfl, _, F1, rfl, _, _, rfl, _, _, rfl, rfl, _, _, rfl, r2, rfl, _, F2, rfl, _, _, rfl, _, _, rfl, rfl, rfl, ?_⟩
    walk_at "rs"
    refine ⟨z2.ok zt (by decide) (by decide), by decide, fun p1 n1 => ⟨z4.ok zt (by decide) (by decide), by decide, fun p2 n2 => ⟨by decide, fun p3 n3 => ?_⟩⟩⟩
    obtain ⟨sA, mA⟩ := newM n1 n2 n3
    rw [wt_eq] at mA
    exact q p3 _ sA (((same_upd n1).trans (same_upd n2)).free n3) mA
abbrev s_check_walked : Stmt := top 27
theorem sc_check_walked : FnScope ["D"] ["D"] (defScope s_check_walked) := ⟨rfl, rfl, rfl, by decide +kernel, rfl, by decide +kernel, by decide +kernel⟩

def spChkW (CR : Addr) : Sp := fun vs H Q E => ∃ D : Int, vs = [.int D] ∧ ((1000000 < D ∧ Large CR H E) ∨ (D ≤ 1000000 ∧ Q .non H))
theorem cal_chkw (D : Dn K mg "check_walked" s_check_walked ["D"]) (B : Bl mg) (e_E : ErrI P w K mg base CM CR) : CalX P w K mg base "check_walked" 3 ["D"] (spChkW CR) := by
  refine D.calX sc_check_walked (fun vs H Q E h => ?_) (fun f cdv A outer s H vs Q E hr h => ?_)
  · obtain ⟨n, rfl, _⟩ := h
    rfl
  · obtain ⟨n, rfl, h⟩ := h
    refine ⟨_, (pss_one (ps_if (pt_cmpR op_gt (pv 0) (pe_glob (v := .int 1000000) rfl B.c_LARGEST.choose_spec ⟨_, rfl⟩) (nomark _)) (pss_one (ps_ref e_E rfl (takes_of rfl rfl rfl rfl) (hr.mono (by decide)) rfl)) pss_nil)), ?_⟩
    walk_at "rd"
    rcases h with ⟨hn, e⟩ | ⟨hn, q⟩
    · rw [if_pos (by omega)]
      exact e
    · rw [if_neg (by omega)]
      exact q
abbrev s_is_on_cycle : Stmt := top 30
theorem sc_is_on_cycle : FnScope ["f"] ["f"] (defScope s_is_on_cycle) := ⟨rfl, rfl, rfl, by decide +kernel, rfl, by decide +kernel, by decide +kernel⟩

def spOnC (K : PySem.W.Frag) (CM : Addr) : Sp := fun vs H Q E => ∃ v : V, vs = [v] ∧ OrI K CM H v E fun f => ∀ H', Same H H' → Q (.bl (decide (fits (isq (dsc f.1 f.2.1 f.2.2)) f))) H'
theorem cal_onc (D : Dn K mg "is_on_cycle" s_is_on_cycle ["f"]) (B : Bl mg) (c_check_indefinite : CalX P w K mg base "check_indefinite" 5 ["f"] (spInd K CM)) (c__root_of : Cal P w K mg base "_root_of" 2 ["f"] spRootOf) (c_fits : Cal P w K mg base "fits" 1 ["f", "s"] spFits) : CalX P w K mg base "is_on_cycle" 6 ["f"] (spOnC K CM) := by
  refine D.calX sc_is_on_cycle (fun vs H Q E h => ?_) (fun f cdv A outer s H vs Q E hr h => ?_)
  · obtain ⟨v, rfl, _⟩ := h
    rfl
  · obtain ⟨v, rfl, h⟩ := h
    refine ⟨_, (pss_cons (ps_expr (pe_calS c_check_indefinite (takes_of rfl rfl rfl rfl) (hr.mono (by decide)) rfl (pa_cons (pv 0) pa_nil)))
  (pss_one (ps_ret (pe_cal c_fits (hr.mono (by decide)) rfl (pa_cons (pv 0) (pa_cons (pe_cal c__root_of (hr.mono (by decide)) rfl (pa_cons (pv 0) pa_nil)) pa_nil)))))), ?_⟩
    walk_at "rd"
    refine ⟨v, rfl, ?_⟩
    rcases h with h | ⟨f, hI, q⟩
    · exact .inl h
    · refine .inr ⟨f, hI, fun H1 s1 => ?_⟩
      have hI := hI.same s1
      have hg := hI.good
      obtain ⟨p, rfl, hp, hf, hd⟩ := hI
      exact ⟨p, f, rfl, ⟨p, rfl, hp⟩, hg.2.1, hg.2.2.1, Int.le_of_lt hd, hg.2.2.2, p, f, _, rfl, ⟨p, rfl, hp⟩, q H1 s1⟩
abbrev s_next_form : Stmt := top 33
theorem sc_next_form : FnScope ["f", "g", "t"] ["f"] (defScope s_next_form) := ⟨rfl, rfl, rfl, by decide +kernel, rfl, by decide +kernel, by decide +kernel⟩

def lg3 (t : T3) : Bool := lgB t.1 t.2.1 t.2.2
abbrev rtF (f : T3) : Int := isq (dsc f.1 f.2.1 f.2.2)
abbrev nxF (f : T3) : T3 := stp (rtF f) f
abbrev tnF (f : T3) : Int := newT (rtF f) f.2.1 f.2.2
def spNext (K : PySem.W.Frag) (CM CR : Addr) : Sp := fun vs H Q E => ∃ v : V, vs = [v] ∧ OrI K CM H v E fun f => (lg3 (nxF f) = true ∧ Large CR H E) ∨ (lg3 (nxF f) = false ∧ ∀ q H', Same H H' → H q = none → AtP H' q (nxF f) (tnF f) → Q (.ref q) H')
theorem cal_next (D : Dn K mg "next_form" s_next_form ["f"]) (B : Bl mg) (c_check_indefinite : CalX P w K mg base "check_indefinite" 5 ["f"] (spInd K CM)) (c__root_of : Cal P w K mg base "_root_of" 2 ["f"] spRootOf) (c_step_from : Cal P w K mg base "step_from" 1 ["f", "s"] spStep)
    (c_check_items : CalX P w K mg base "check_items" 3 ["f"] (spChkI CR)) : CalX P w K mg base "next_form" 6 ["f"] (spNext K CM CR) := by
  refine D.calX sc_next_form (fun vs H Q E h => ?_) (fun f cdv A outer s H vs Q E hr h => ?_)
  · obtain ⟨v, rfl, _⟩ := h
    rfl
  · obtain ⟨v, rfl, h⟩ := h
    refine ⟨_, (pss_cons (ps_expr (pe_calS c_check_indefinite (takes_of rfl rfl rfl rfl) (hr.mono (by decide)) rfl (pa_cons (pv 0) pa_nil)))
  (pss_cons (ps_asg (pe_cal c_step_from (hr.mono (by decide)) rfl (pa_cons (pv 0) (pa_cons (pe_cal c__root_of (hr.mono (by decide)) rfl (pa_cons (pv 0) pa_nil)) pa_nil))) (pg_tup rfl (pgs_cons (pg_name (i := 1) sc_next_form.nd rfl (Or.inl rfl)) (pgs_cons (pg_name (i := 2) sc_next_form.nd rfl (Or.inl rfl)) pgs_nil))))
  (pss_cons (ps_expr (pe_calS c_check_items (takes_of rfl rfl rfl rfl) (hr.mono (by decide)) rfl (pa_cons (pv 1) pa_nil)))
  (pss_one (ps_ret (pe_tup (pa_cons (pv 1) (pa_cons (pv 2) pa_nil)))))))), ?_⟩
    rw [CB.rd_seq]
    walk_at "rs"
    refine ⟨v, rfl, ?_⟩
    rcases h with h | ⟨f, hI, h⟩
    · exact .inl h
    refine .inr ⟨f, hI, fun H1 s1 => ?_⟩
    have hI := hI.same s1
    have hg := hI.good
    obtain ⟨p, rfl, hp, hf, hd⟩ := hI
    show tSeq _ _ _ _ _
    rw [CB.rd_seq]
    walk_at "rs"
    refine ⟨p, f, rfl, ⟨p, rfl, hp⟩, hg.2.1, hg.2.2.1, Int.le_of_lt hd, hg.2.2.2, p, f, _, _, rfl, ⟨p, rfl, hp⟩, hg.1, fun q1 H2 s2 n2 hq1 => ?_⟩
    obtain ⟨g, h1, ⟨_, e, h2⟩⟩ := hq1
    cases e
    refine ⟨q1, rfl, _, SqT.of h1, rfl, _, _, rfl, _, _, rfl, rfl, ?_⟩
    show tSeq _ _ _ _ _
    rw [CB.rd_seq]
    walk_at "rs"
    have sA := s1.trans s2
    refine ⟨g, _, _, _, rfl, h2, ?_⟩
    rcases h with ⟨hl, e⟩ | ⟨hl, q⟩
    · exact .inl ⟨hl, fun d H' s nd hx => e d H' (sA.trans s) (sA.free nd) hx⟩
    · refine .inr ⟨hl, fun H3 s3 => ?_⟩
      walk_at "rs"
      refine ⟨by decide, fun q2 n3 => ?_⟩
      have s4 := same_upd (o := HO.tup [.ref g, .int (tnF f)]) n3
      exact q q2 _ ((sA.trans s3).trans s4) ((sA.trans s3).free n3) ⟨g, upd_same, g, rfl, s4 _ _ (s3 _ _ h2)⟩
end

section
variable {P : Program} {w : World} {K : PySem.W.Frag} {mg : Str → Option Value} {base : Heap} {CM CR aU a1 a2 : Addr}
theorem eqv_t3 (x y : T3) : PyData.eqv (dT3 x) (dT3 y) = decide (x = y) := by
  obtain ⟨a, b, c⟩ := x
  obtain ⟨a', b', c'⟩ := y
  have e : PyData.eqv (dT3 (a, b, c)) (dT3 (a', b', c')) = ((a == a') && ((b == b') && ((c == c') && true))) := rfl
  rw [e]
  by_cases h1 : a = a'
  · by_cases h2 : b = b'
    · by_cases h3 : c = c'
      · simp [h1, h2, h3]
      · simp [h3]
    · simp [h2]
  · simp [h1]
theorem shaped_one (x : T3) : SeqAt.shaped (dT3 x) = true := rfl
theorem atT_dp {H : Hp} {v : V} {t : T3} (h : AtT H v t) : Dp K H v (dT3 t) := by
  obtain ⟨p, rfl, hp⟩ := h
  exact .tup (SqT.of hp) (.cons (.int _) (.cons (.int _) (.cons (.int _) .nil)))
/-- the global ((1, 0), (0, 1)) -/
structure UM (K : PySem.W.Frag) (mg : Str → Option Value) (aU a1 a2 : Addr) : Prop where
  g : mg "UNIT_MATRIX" = some (.ref aU)
  t0 : ∀ H, SqT K H aU [.ref a1, .ref a2]
  t1 : ∀ H, SqT K H a1 [.int 1, .int 0]
  t2 : ∀ H, SqT K H a2 [.int 0, .int 1]
theorem least' {q : Nat → Prop} (h : ∃ k, q k) : ∃ m, q m ∧ ∀ j, j < m → ¬ q j := by
  obtain ⟨k, hk⟩ := h
  obtain ⟨m, _, h1, h2⟩ := least k hk
  exact ⟨m, h1, h2⟩
open Classical in
/-- a loop whose turns are counted to n by nothing in the state -/
theorem while_i {c : TT} {tb : TS} {D : Ends} {σ : L2.St} {H : Hp} (n : Nat) (Pw : Nat → L2.St → Hp → Prop) (h0 : Pw 0 σ H)
    (hs : ∀ i σ H, i ≤ n → Pw i σ H → ∀ N : L2.St → Hp → Prop, (∀ σ' H', i < n → Pw (i + 1) σ' H' → N σ' H') →
      ∃ b : Bool, (∀ Q : Bool → Hp → Prop, Q b H → c σ H Q) ∧ (b = true → tb { D with nx := N, ct := N, bk := D.nx } σ H) ∧ (b = false → D.nx σ H)) : tWhile c tb D σ H := by
  let p : L2.St → Hp → Nat → Prop := fun σ H k => ∃ i, i + k = n ∧ Pw i σ H
  let μ : L2.St → Hp → Nat := fun σ H => if h : ∃ k, p σ H k then Classical.choose (least' h) else 0
  refine while_w (fun σ H => ∃ i, i ≤ n ∧ Pw i σ H) μ ⟨0, Nat.zero_le _, h0⟩ ?_
  rintro σ H ⟨i0, hi0, hp0⟩ N hN
  have ex : ∃ k, p σ H k := ⟨n - i0, i0, by omega, hp0⟩
  have e : μ σ H = Classical.choose (least' ex) := dif_pos ex
  obtain ⟨⟨i, hi, hp⟩, _⟩ := Classical.choose_spec (least' ex)
  rw [← e] at hi
  refine hs i σ H (by omega) hp N fun σ' H' hlt hp' => hN σ' H' ⟨i + 1, by omega, hp'⟩ ?_
  have ex' : ∃ k, p σ' H' k := ⟨n - (i + 1), i + 1, by omega, hp'⟩
  have e' : μ σ' H' = Classical.choose (least' ex') := dif_pos ex'
  have m' := (Classical.choose_spec (least' ex')).2
  rw [← e'] at m'
  rcases Nat.lt_or_ge (μ σ' H') (μ σ H) with z | z
  · exact z
  · exact absurd ⟨i + 1, by omega, hp'⟩ (m' (n - (i + 1)) (by omega))
theorem good_it {D s : Int} {f : T3} (h : Good D s f) (zD : Sz 405 D) (n : Nat) : Good D s (it s f n) := by
  obtain ⟨hf, za, zb, zc, zs⟩ := h
  have b := it_bd (m := 2 ^ 410 - 1) hf (by unfold Sz at zD; omega) ⟨by unfold Sz at za; omega, by unfold Sz at zb; omega, by unfold Sz at zc; omega⟩ n
  refine ⟨it_frm hf n, ?_, ?_, ?_, zs⟩
  · unfold Sz; omega
  · unfold Sz; omega
  · unfold Sz; omega
theorem mt_sz {D s : Int} {f : T3} (h : Good D s f) (zD : Sz 405 D) : ∀ n, SzM (3 + 413 * n) (mt s f n)
  | 0 => ⟨by show Sz 3 1; unfold Sz; decide, by show Sz 3 0; unfold Sz; decide, by show Sz 3 0; unfold Sz; decide, by show Sz 3 1; unfold Sz; decide⟩
  | n + 1 => by
    have z3 : Sz 3 0 ∧ Sz 3 (-1) ∧ Sz 3 1 := by unfold Sz; decide
    have z := mulM_sz (mt_sz h zD n) (n := ((0, -1), (1, newT s (it s f n).2.1 (it s f n).2.2))) (l := 412) ⟨z3.1.le (by decide), z3.2.1.le (by decide), z3.2.2.le (by decide), (good_it h zD n).new.2⟩
    rw [show 3 + 413 * n + 412 + 1 = 3 + 413 * (n + 1) by omega] at z
    exact z
theorem IsIn.dsz {H : Hp} {v : V} {f : T3} (h : IsIn H v f) : Sz 405 (dsc f.1 f.2.1 f.2.2) := by
  obtain ⟨p, e, hp, hf, hd⟩ := h
  obtain ⟨za, zb, zc⟩ := form_sz (form_lg hf)
  have z4 : Sz 3 4 := by unfold Sz; decide
  exact (((zb.mul zb).le (by decide : 400 ≤ 403)).sub ((z4.mul za).mul zc)).le (by decide)
theorem IsIn.led {H : Hp} {v : V} {f : T3} (h : IsIn H v f) : ∃ n, n ≤ 102 ∧ fits (rtF f) (it (rtF f) f n) ∧ ∀ j, j < n → ¬ fits (rtF f) (it (rtF f) f j) := by
  have g := h.good
  obtain ⟨p, e, hp, hf, hd⟩ := h
  refine L21.led g.1.1 ?_
  have := (lgB_no (form_lg hf)).2.2
  unfold B60 at this
  omega
abbrev s_lead : Stmt := top 34
theorem sc_lead : FnScope ["f", "s", "m", "t"] ["f"] (defScope s_lead) := ⟨rfl, rfl, rfl, by decide +kernel, rfl, by decide +kernel, by decide +kernel⟩

def AtL (K : PySem.W.Frag) (H : Hp) (q : Addr) (f : T3) (m : M4) : Prop := ∃ x y, H q = some (.tup [x, y]) ∧ AtT H x f ∧ IsK K H y m
/-- the first step on the cycle -/
def First (f : T3) (n : Nat) : Prop := n ≤ 102 ∧ fits (rtF f) (it (rtF f) f n) ∧ ∀ j, j < n → ¬ fits (rtF f) (it (rtF f) f j)
def spLead (K : PySem.W.Frag) : Sp := fun vs H Q _ => ∃ (v : V) (f : T3), vs = [v] ∧ IsIn H v f ∧ ∀ n q H', First f n → Same H H' → H q = none → AtL K H' q (it (rtF f) f n) (mt (rtF f) f n) → Q (.ref q) H'
theorem cal_lead (D : Dn K mg "lead" s_lead ["f"]) (B : Bl mg) (U : UM K mg aU a1 a2) (c__root_of : Cal P w K mg base "_root_of" 2 ["f"] spRootOf) (c_fits : Cal P w K mg base "fits" 1 ["f", "s"] spFits) (c_step_from : Cal P w K mg base "step_from" 1 ["f", "s"] spStep)
    (c_with_turn : Cal P w K mg base "with_turn" 1 ["m", "t"] (spTurn K)) : Cal P w K mg base "lead" 3 ["f"] (spLead K) := by
  refine D.cal sc_lead (fun vs H Q E h => ?_) (fun f cdv A outer s H vs Q E hr h => ?_)
  · obtain ⟨v, f, rfl, _⟩ := h
    rfl
  · obtain ⟨v, f, rfl, hI, q⟩ := h
    have hg := hI.good
    have zD := hI.dsz
    obtain ⟨n, hn, hfit, hmin⟩ := hI.led
    obtain ⟨p, rfl, hp, hf, hd⟩ := hI
    refine ⟨_, (pss_cons (ps_set (i := 1) sc_lead.nd rfl (Or.inl rfl) (pe_cal c__root_of (hr.mono (by decide)) rfl (pa_cons (pv 0) pa_nil)))
  (pss_cons (ps_set (i := 2) sc_lead.nd rfl (Or.inl rfl) (pe_glob (v := .ref aU) rfl U.g rfl))
  (pss_cons (ps_while PassesOwn.never (pt_not (pt_val (pe_cal c_fits (hr.mono (by decide)) rfl (pa_cons (pv 0) (pa_cons (pv 1) pa_nil))))) (pss_cons (ps_asg (pe_cal c_step_from (hr.mono (by decide)) rfl (pa_cons (pv 0) (pa_cons (pv 1) pa_nil))) (pg_tup rfl (pgs_cons (pg_name (i := 0) sc_lead.nd rfl (Or.inl rfl)) (pgs_cons (pg_name (i := 3) sc_lead.nd rfl (Or.inl rfl)) pgs_nil))))
  (pss_one (ps_set (i := 2) sc_lead.nd rfl (Or.inl rfl) (pe_cal c_with_turn (hr.mono (by decide)) rfl (pa_cons (pv 2) (pa_cons (pv 3) pa_nil)))))))
  (pss_one (ps_ret (pe_tup (pa_cons (pv 0) (pa_cons (pv 2) pa_nil)))))))), ?_⟩
    rw [CB.rd_seq]
    walk_at "rs"
    refine ⟨p, f, rfl, ⟨p, rfl, hp⟩, hg.2.1, hg.2.2.1, Int.le_of_lt hd, hg.2.2.2, ?_⟩
    show tSeq _ _ _ _ _
    rw [CB.rd_seq]
    walk_at "rs"
    rw [CB.rd_seq]
    refine while_i n (fun i σ H' => ∃ x y s4, σ = [some x, some (.int (rtF f)), some y, s4] ∧ Same H H' ∧ AtT H' x (it (rtF f) f i) ∧ IsK K H' y (mt (rtF f) f i)) ⟨_, _, _, rfl, Same.refl H, ⟨p, rfl, hp⟩, ⟨aU, a1, a2, rfl, U.t0 _, U.t1 _, U.t2 _⟩⟩ ?_
    rintro i σ H' hi ⟨x, y, s4, rfl, sm, hx, hy⟩ N hN
    obtain ⟨px, rfl, hpx⟩ := hx
    refine ⟨!decide (fits (rtF f) (it (rtF f) f i)), fun Q' q' => ?_, fun hb => ?_, fun hb => ?_⟩
    · walk_at "rd"
      exact ⟨px, _, _, rfl, ⟨px, rfl, hpx⟩, _, rfl, q'⟩
    · have nf : ¬ fits (rtF f) (it (rtF f) f i) := by simpa using hb
      have hlt : i < n := by
        rcases Nat.lt_or_ge i n with z | z
        · exact z
        · exact absurd (by rw [show i = n by omega]; exact hfit) nf
      rw [CB.rd_seq]
      walk_at "rs"
      refine ⟨px, _, _, _, rfl, ⟨px, rfl, hpx⟩, good_it hg.1 zD i, fun q1 H2 s2 n2 hq1 => ?_⟩
      obtain ⟨g, h1, h2⟩ := hq1
      refine ⟨q1, rfl, _, SqT.of h1, rfl, _, _, rfl, _, _, rfl, rfl, ?_⟩
      refine ⟨_, _, _, rfl, isK_same s2 hy, ?_, (good_it hg.1 zD i).new.2, fun q2 H3 s3 n3 hm => ?_⟩
      · have z := mt_sz hg.1 zD i
        exact ⟨z.1.le (by omega), z.2.1.le (by omega), z.2.2.1.le (by omega), z.2.2.2.le (by omega)⟩
      exact hN _ _ hlt ⟨_, _, _, rfl, (sm.trans s2).trans s3, AtT.same s3 h2, isM_K hm⟩
    · have yf : fits (rtF f) (it (rtF f) f i) := by simpa using hb
      have he : i = n := by
        rcases Nat.lt_or_ge i n with z | z
        · exact absurd yf (hmin i z)
        · omega
      subst he
      walk_at "rs"
      exact ⟨by decide, fun q1 n1 => q i q1 _ ⟨hn, hfit, hmin⟩ (sm.trans (same_upd n1)) (sm.free n1) ⟨_, _, upd_same, ⟨px, rfl, same_upd n1 _ _ hpx⟩, isK_same (same_upd n1) hy⟩⟩
abbrev s_lead_in : Stmt := top 35
theorem sc_lead_in : FnScope ["f", "g", "m"] ["f"] (defScope s_lead_in) := ⟨rfl, rfl, rfl, by decide +kernel, rfl, by decide +kernel, by decide +kernel⟩

def spLeadIn (K : PySem.W.Frag) (CM CR : Addr) : Sp := fun vs H Q E => ∃ v : V, vs = [v] ∧ OrI K CM H v E fun f => ∀ n, First f n → (lg3 (it (rtF f) f n) = true ∧ Large CR H E) ∨ (lg3 (it (rtF f) f n) = false ∧ ∀ q H', Same H H' → H q = none → AtL K H' q (it (rtF f) f n) (mt (rtF f) f n) → Q (.ref q) H')
theorem cal_leadin (D : Dn K mg "lead_in" s_lead_in ["f"]) (B : Bl mg) (c_check_indefinite : CalX P w K mg base "check_indefinite" 5 ["f"] (spInd K CM)) (c_lead : Cal P w K mg base "lead" 3 ["f"] (spLead K)) (c_check_items : CalX P w K mg base "check_items" 3 ["f"] (spChkI CR)) : CalX P w K mg base "lead_in" 6 ["f"] (spLeadIn K CM CR) := by
  refine D.calX sc_lead_in (fun vs H Q E h => ?_) (fun f cdv A outer s H vs Q E hr h => ?_)
  · obtain ⟨v, rfl, _⟩ := h
    rfl
  · obtain ⟨v, rfl, h⟩ := h
    refine ⟨_, (pss_cons (ps_expr (pe_calS c_check_indefinite (takes_of rfl rfl rfl rfl) (hr.mono (by decide)) rfl (pa_cons (pv 0) pa_nil)))
  (pss_cons (ps_asg (pe_cal c_lead (hr.mono (by decide)) rfl (pa_cons (pv 0) pa_nil)) (pg_tup rfl (pgs_cons (pg_name (i := 1) sc_lead_in.nd rfl (Or.inl rfl)) (pgs_cons (pg_name (i := 2) sc_lead_in.nd rfl (Or.inl rfl)) pgs_nil))))
  (pss_cons (ps_expr (pe_calS c_check_items (takes_of rfl rfl rfl rfl) (hr.mono (by decide)) rfl (pa_cons (pv 1) pa_nil)))
  (pss_one (ps_ret (pe_tup (pa_cons (pv 1) (pa_cons (pv 2) pa_nil)))))))), ?_⟩
    rw [CB.rd_seq]
    walk_at "rs"
    refine ⟨v, rfl, ?_⟩
    rcases h with h | ⟨f, hI, h⟩
    · exact .inl h
    refine .inr ⟨f, hI, fun H1 s1 => ?_⟩
    show tSeq _ _ _ _ _
    rw [CB.rd_seq]
    walk_at "rs"
    refine ⟨v, f, rfl, hI.same s1, fun n q1 H2 hF s2 n2 hq1 => ?_⟩
    obtain ⟨x, y, h1, ⟨g, rfl, h2⟩, h3⟩ := hq1
    refine ⟨q1, rfl, _, SqT.of h1, rfl, _, _, rfl, _, _, rfl, rfl, ?_⟩
    show tSeq _ _ _ _ _
    rw [CB.rd_seq]
    walk_at "rs"
    have sA := s1.trans s2
    refine ⟨g, _, _, _, rfl, h2, ?_⟩
    rcases h n hF with ⟨hl, e⟩ | ⟨hl, q⟩
    · exact .inl ⟨hl, fun d H' s nd hx => e d H' (sA.trans s) (sA.free nd) hx⟩
    · refine .inr ⟨hl, fun H3 s3 => ?_⟩
      walk_at "rs"
      refine ⟨by decide, fun q2 n3 => ?_⟩
      have s4 := same_upd (o := HO.tup [.ref g, y]) n3
      exact q q2 _ ((sA.trans s3).trans s4) ((sA.trans s3).free n3) ⟨.ref g, y, upd_same, ⟨g, rfl, s4 _ _ (s3 _ _ h2)⟩, isK_same (s3.trans s4) h3⟩
end

section
variable {P : Program} {w : World} {K : PySem.W.Frag} {mg : Str → Option Value} {base : Heap} {CM CR aU a1 a2 : Addr}
def Fl (s : Int) (f : T3) (k : Nat) : List Itm := (List.range k).map fun i => Itm.T (it s f i)
def Tl (s : Int) (f : T3) (k : Nat) : List Itm := (List.range k).map fun i => Itm.I (newT s (it s f i).2.1 (it s f i).2.2)
theorem Fl_succ {s : Int} {f : T3} {k : Nat} : Fl s f (k + 1) = Fl s f k ++ [Itm.T (it s f k)] := by simp [Fl, List.range_succ]
theorem Tl_succ {s : Int} {f : T3} {k : Nat} : Tl s f (k + 1) = Tl s f k ++ [Itm.I (newT s (it s f k).2.1 (it s f k).2.2)] := by simp [Tl, List.range_succ]
theorem Fl_len {s : Int} {f : T3} {k : Nat} : (Fl s f k).length = k := by simp [Fl]
theorem Tl_len {s : Int} {f : T3} {k : Nat} : (Tl s f k).length = k := by simp [Tl]
/-- the cycle's length -/
def Lap (f : T3) (k : Nat) : Prop := 0 < k ∧ k ≤ 5000000 ∧ it (rtF f) f k = f ∧ ∀ j, 0 < j → j < k → it (rtF f) f j ≠ f
def WalkAt (H : Hp) (q : Addr) (f : T3) (k : Nat) : Prop := ∃ pf pt xs ys, H q = some (.tup [.ref pf, .ref pt]) ∧ H pf = some (.lst xs) ∧ AtsN H xs (Fl (rtF f) f k) ∧ H pt = some (.lst ys) ∧ AtsN H ys (Tl (rtF f) f k)
def spWalk : Sp := fun vs H Q _ => ∃ (v : V) (f : T3) (k : Nat), vs = [v] ∧ IsIn H v f ∧ Lap f k ∧ ∀ q H', Same H H' → H q = none → WalkAt H' q f k → Q (.ref q) H'
abbrev s_walk : Stmt := top 36
theorem sc_walk : FnScope ["f", "s", "g", "t", "forms", "turns"] ["f"] (defScope s_walk) := ⟨rfl, rfl, rfl, by decide +kernel, rfl, by decide +kernel, by decide +kernel⟩

theorem cal_walk (D : Dn K mg "walk" s_walk ["f"]) (B : Bl mg) (c__root_of : Cal P w K mg base "_root_of" 2 ["f"] spRootOf) (c_step_from : Cal P w K mg base "step_from" 1 ["f", "s"] spStep) : Cal P w K mg base "walk" 3 ["f"] spWalk := by
  refine D.cal sc_walk (fun vs H Q E h => ?_) (fun f cdv A outer s H vs Q E hr h => ?_)
  · obtain ⟨v, f, k, rfl, _⟩ := h
    rfl
  · obtain ⟨v, f, k, rfl, hI, ⟨k0, kb, hk, hmin⟩, q⟩ := h
    have hg := hI.good
    have zD := hI.dsz
    obtain ⟨p, rfl, hp, hf, hd⟩ := hI
    refine ⟨_, (pss_cons (ps_set (i := 1) sc_walk.nd rfl (Or.inl rfl) (pe_cal c__root_of (hr.mono (by decide)) rfl (pa_cons (pv 0) pa_nil)))
  (pss_cons (ps_asg (pe_cal c_step_from (hr.mono (by decide)) rfl (pa_cons (pv 0) (pa_cons (pv 1) pa_nil))) (pg_tup rfl (pgs_cons (pg_name (i := 2) sc_walk.nd rfl (Or.inl rfl)) (pgs_cons (pg_name (i := 3) sc_walk.nd rfl (Or.inl rfl)) pgs_nil))))
  (pss_cons (ps_par (i := 4) (j := 5) rfl sc_walk.nd rfl rfl (by decide) rfl rfl (pa_cons (pe_lst (pa_cons (pv 0) pa_nil)) (pa_cons (pe_lst (pa_cons (pv 3) pa_nil)) pa_nil)) (by rfl))
  (pss_cons (ps_while PassesOwn.never (pt_cmpR (op_neD hr.units) (pv 2) (pv 0) (nomark _)) (pss_cons (ps_expr (pe_bm PySem.F.plainAttrs_list PySem.F.slot_list_append PySem.F.type_list_append mt_append (pv 4) (pa_cons (pv 2) pa_nil)))
  (pss_cons (ps_asg (pe_cal c_step_from (hr.mono (by decide)) rfl (pa_cons (pv 2) (pa_cons (pv 1) pa_nil))) (pg_tup rfl (pgs_cons (pg_name (i := 2) sc_walk.nd rfl (Or.inl rfl)) (pgs_cons (pg_name (i := 3) sc_walk.nd rfl (Or.inl rfl)) pgs_nil))))
  (pss_one (ps_expr (pe_bm PySem.F.plainAttrs_list PySem.F.slot_list_append PySem.F.type_list_append mt_append (pv 5) (pa_cons (pv 3) pa_nil)))))))
  (pss_one (ps_ret (pe_tup (pa_cons (pv 4) (pa_cons (pv 5) pa_nil))))))))), ?_⟩
    rw [CB.rd_seq]
    walk_at "rs"
    refine ⟨p, f, rfl, ⟨p, rfl, hp⟩, hg.2.1, hg.2.2.1, Int.le_of_lt hd, hg.2.2.2, ?_⟩
    show tSeq _ _ _ _ _
    rw [CB.rd_seq]
    walk_at "rs"
    refine ⟨p, f, _, _, rfl, ⟨p, rfl, hp⟩, hg.1, fun q1 H1 s1 n1 hq1 => ?_⟩
    obtain ⟨g, h1, h2⟩ := hq1
    refine ⟨q1, rfl, _, SqT.of h1, rfl, _, _, rfl, _, _, rfl, rfl, ?_⟩
    show tSeq _ _ _ _ _
    rw [CB.rd_seq]
    walk_at "rs"
    refine ⟨by decide, fun pf nf => ⟨by decide, fun pt nt => ?_⟩⟩
    show tSeq _ _ _ _ _
    rw [CB.rd_seq]
    have sB := same_upd (o := HO.lst [.ref p]) nf
    have sC := same_upd (o := HO.lst [.int (newT (rtF f) f.2.1 f.2.2)]) nt
    have nfH : H pf = none := s1.free nf
    have ntH : H pt = none := (s1.trans sB).free nt
    have ne : pf ≠ pt := fun e => by
      rw [← e, upd_same] at nt
      cases nt
    refine while_i (k - 1) (fun i σ H' => ∃ g xs ys, σ = [some (.ref p), some (.int (rtF f)), some g, some (.int (newT (rtF f) (it (rtF f) f i).2.1 (it (rtF f) f i).2.2)), some (.ref pf), some (.ref pt)] ∧ Same H H' ∧ AtT H' g (it (rtF f) f (i + 1)) ∧ H' pf = some (.lst xs) ∧ AtsN H' xs (Fl (rtF f) f (i + 1)) ∧ H' pt = some (.lst ys) ∧ AtsN H' ys (Tl (rtF f) f (i + 1)))
      ⟨.ref g, _, _, rfl, (s1.trans sB).trans sC, AtT.same (sB.trans sC) h2, sC _ _ upd_same, ⟨⟨p, rfl, sC _ _ (sB _ _ (s1 _ _ hp))⟩, trivial⟩, upd_same, ⟨rfl, trivial⟩⟩ ?_
    rintro i σ H' hi ⟨g, xs, ys, rfl, sm, hg', hxs, ax, hys, ay⟩ N hN
    refine ⟨!decide (it (rtF f) f (i + 1) = f), fun Q' q' => ?_, fun hb => ?_, fun hb => ?_⟩
    · walk_at "rd"
      refine ⟨dT3 _, dT3 f, atT_dp hg', atT_dp ⟨p, rfl, sm _ _ hp⟩, shaped_one _, shaped_one _, ?_⟩
      rw [eqv_t3]
      exact ⟨_, rfl, q'⟩
    · have nf : it (rtF f) f (i + 1) ≠ f := by simpa using hb
      have hlt : i < k - 1 := by
        rcases Nat.lt_or_ge i (k - 1) with z | z
        · exact z
        · exact absurd (by rw [show i + 1 = k by omega]; exact hk) nf
      rw [CB.rd_seq]
      walk_at "rs"
      have lx := atsN_len ax
      have ly := atsN_len ay
      rw [Fl_len] at lx
      rw [Tl_len] at ly
      refine ⟨tyL hxs, _, hxs, small_size (by omega), ?_⟩
      have sD : Same H (upd H' pf (.lst (xs ++ [g]))) := same_at sm nfH
      have ax2 : AtsN (upd H' pf (.lst (xs ++ [g]))) (xs ++ [g]) (Fl (rtF f) f (i + 1 + 1)) := by
        rw [Fl_succ]
        exact atsN_L hxs (atsN_snoc (i := Itm.T _) hg' ax)
      have ay2 := atsN_L (o := .lst (xs ++ [g])) hxs ay
      have hg2 : AtT (upd H' pf (.lst (xs ++ [g]))) g (it (rtF f) f (i + 1)) := by
        obtain ⟨r, e, hr⟩ := hg'
        exact ⟨r, e, by rw [upd_ne (ne_of hr hxs (by intro z; cases z))]; exact hr⟩
      have hx2 : (upd H' pf (.lst (xs ++ [g]))) pf = some (.lst (xs ++ [g])) := upd_same
      have hy2 : (upd H' pf (.lst (xs ++ [g]))) pt = some (.lst ys) := by rw [upd_ne (fun e => ne e.symm)]; exact hys
      generalize upd H' pf (.lst (xs ++ [g])) = H2 at *
      rw [CB.rd_seq]
      walk_at "rs"
      obtain ⟨r, rfl, hr2⟩ := hg2
      refine ⟨r, _, _, _, rfl, ⟨r, rfl, hr2⟩, good_it hg.1 zD (i + 1), fun q2 H3 s3 n3 hq2 => ?_⟩
      obtain ⟨g3, e1, e2⟩ := hq2
      refine ⟨q2, rfl, _, SqT.of e1, rfl, _, _, rfl, _, _, rfl, rfl, ?_⟩
      refine ⟨tyL (s3 _ _ hy2), _, s3 _ _ hy2, small_size (by omega), ?_⟩
      refine hN _ _ hlt ⟨.ref g3, xs ++ [.ref r], _, rfl, same_at (sD.trans s3) ntH, ?_, ?_, ?_, upd_same, ?_⟩
      · obtain ⟨r', e, hr⟩ := e2
        exact ⟨r', e, by rw [upd_ne (ne_of hr (s3 _ _ hy2) (by intro z; cases z))]; exact hr⟩
      · rw [upd_ne ne]
        exact s3 _ _ hx2
      · exact atsN_L (s3 _ _ hy2) (atsN_same s3 ax2)
      · rw [Tl_succ]
        exact atsN_L (s3 _ _ hy2) (atsN_snoc (i := Itm.I _) rfl (atsN_same s3 ay2))
    · have yf : it (rtF f) f (i + 1) = f := by simpa using hb
      have he : i + 1 = k := by
        rcases Nat.lt_or_ge (i + 1) k with z | z
        · exact absurd yf (hmin (i + 1) (by omega) z)
        · omega
      rw [he] at ax ay
      walk_at "rs"
      exact ⟨by decide, fun q1 n1 => q q1 _ (sm.trans (same_upd n1)) (sm.free n1) ⟨pf, pt, xs, ys, upd_same, same_upd n1 _ _ hxs, atsN_same (same_upd n1) ax, same_upd n1 _ _ hys, atsN_same (same_upd n1) ay⟩⟩
abbrev s__check_walk : Stmt := top 37
theorem sc__check_walk : FnScope ["f"] ["f"] (defScope s__check_walk) := ⟨rfl, rfl, rfl, by decide +kernel, rfl, by decide +kernel, by decide +kernel⟩

/-- may the cycle be told? -/
def spCWalk (K : PySem.W.Frag) (CM CR : Addr) : Sp := fun vs H Q E => ∃ v : V, vs = [v] ∧ OrI K CM H v E fun f => (1000000 < dsc f.1 f.2.1 f.2.2 ∧ Large CR H E) ∨ (dsc f.1 f.2.1 f.2.2 ≤ 1000000 ∧ ((¬ fits (rtF f) f ∧ ∀ d H', Same H H' → H d = none → H' d = some (.xd [("reason", .str "cycle")]) → E (.ref CR) (some d) H') ∨ (fits (rtF f) f ∧ ∀ H', Same H H' → Q .non H')))
theorem cal_cwalk (D : Dn K mg "_check_walk" s__check_walk ["f"]) (B : Bl mg) (c_check_indefinite : CalX P w K mg base "check_indefinite" 5 ["f"] (spInd K CM)) (c_told_discriminant : Cal P w K mg base "told_discriminant" 1 ["f"] spTDisc) (c_check_walked : CalX P w K mg base "check_walked" 3 ["D"] (spChkW CR)) (c_is_on_cycle : CalX P w K mg base "is_on_cycle" 6 ["f"] (spOnC K CM)) (e_E : ErrI P w K mg base CM CR) :
    CalX P w K mg base "_check_walk" 7 ["f"] (spCWalk K CM CR) := by
  refine D.calX sc__check_walk (fun vs H Q E h => ?_) (fun f cdv A outer s H vs Q E hr h => ?_)
  · obtain ⟨v, rfl, _⟩ := h
    rfl
  · obtain ⟨v, rfl, h⟩ := h
    refine ⟨_, (pss_cons (ps_expr (pe_calS c_check_indefinite (takes_of rfl rfl rfl rfl) (hr.mono (by decide)) rfl (pa_cons (pv 0) pa_nil)))
  (pss_cons (ps_expr (pe_calS c_check_walked (takes_of rfl rfl rfl rfl) (hr.mono (by decide)) rfl (pa_cons (pe_cal c_told_discriminant (hr.mono (by decide)) rfl (pa_cons (pv 0) pa_nil)) pa_nil)))
  (pss_one (ps_if (pt_not (pt_val (pe_calS c_is_on_cycle (takes_of rfl rfl rfl rfl) (hr.mono (by decide)) rfl (pa_cons (pv 0) pa_nil)))) (pss_one (ps_ref e_E rfl (takes_of rfl rfl rfl rfl) (hr.mono (by decide)) rfl)) pss_nil)))), ?_⟩
    walk_at "rd"
    refine ⟨v, rfl, ?_⟩
    rcases h with h | ⟨f, hI, h⟩
    · exact .inl h
    refine .inr ⟨f, hI, fun H1 s1 => ?_⟩
    have hI1 := hI.same s1
    have hg := hI1.good
    obtain ⟨p, rfl, hp, hf, hd⟩ := hI1
    refine ⟨p, _, _, _, rfl, hp, hg.2.1, hg.2.2.1, dsc f.1 f.2.1 f.2.2, rfl, ?_⟩
    rcases h with ⟨hl, e⟩ | ⟨hl, h⟩
    · exact .inl ⟨hl, fun d H' s nd hx => e d H' (s1.trans s) (s1.free nd) hx⟩
    refine .inr ⟨hl, _, rfl, .inr ⟨f, hI.same s1, fun H2 s2 => ⟨_, rfl, ?_⟩⟩⟩
    have s12 := s1.trans s2
    rcases h with ⟨nf, e⟩ | ⟨yf, q⟩
    · rw [if_pos (by simpa using nf)]
      exact fun d H' s nd hx => e d H' (s12.trans s) (s12.free nd) hx
    · rw [if_neg (by simpa using yf)]
      exact q _ s12
abbrev s_cycle_of : Stmt := top 38
theorem sc_cycle_of : FnScope ["f", "forms", "_"] ["f"] (defScope s_cycle_of) := ⟨rfl, rfl, rfl, by decide +kernel, rfl, by decide +kernel, by decide +kernel⟩

/-- the cycle, or why not -/
def OrW (K : PySem.W.Frag) (CM CR : Addr) (H : Hp) (v : V) (E : XK) (G : T3 → Prop) : Prop := OrI K CM H v E fun f => (1000000 < dsc f.1 f.2.1 f.2.2 ∧ Large CR H E) ∨ (dsc f.1 f.2.1 f.2.2 ≤ 1000000 ∧ ((¬ fits (rtF f) f ∧ ∀ d H', Same H H' → H d = none → H' d = some (.xd [("reason", .str "cycle")]) → E (.ref CR) (some d) H') ∨ (fits (rtF f) f ∧ G f)))
theorem OrW.to {K : PySem.W.Frag} {CM CR : Addr} {H : Hp} {v : V} {E : XK} {G : T3 → Prop} {Q : VK} (h : OrW K CM CR H v E G) (q : ∀ f, IsIn H v f → G f → ∀ H', Same H H' → Q .non H') : spCWalk K CM CR [v] H Q E := by
  refine ⟨v, rfl, ?_⟩
  rcases h with h | ⟨f, hI, h⟩
  · exact .inl h
  refine .inr ⟨f, hI, ?_⟩
  rcases h with h | ⟨hl, h | ⟨hf, g⟩⟩
  · exact .inl h
  · exact .inr ⟨hl, .inl h⟩
  · exact .inr ⟨hl, .inr ⟨hf, q f hI g⟩⟩
def spCyc (K : PySem.W.Frag) (CM CR : Addr) : Sp := fun vs H Q E => ∃ v : V, vs = [v] ∧ OrW K CM CR H v E fun f => ∃ k, Lap f k ∧ ∀ q xs H', Same H H' → H q = none → H' q = some (.tup xs) → AtsN H' xs (Fl (rtF f) f k) → Q (.ref q) H'
theorem cal_cyc (D : Dn K mg "cycle_of" s_cycle_of ["f"]) (B : Bl mg) (c__check_walk : CalX P w K mg base "_check_walk" 7 ["f"] (spCWalk K CM CR)) (c_walk : Cal P w K mg base "walk" 3 ["f"] spWalk) : CalX P w K mg base "cycle_of" 8 ["f"] (spCyc K CM CR) := by
  refine D.calX sc_cycle_of (fun vs H Q E h => ?_) (fun f cdv A outer s H vs Q E hr h => ?_)
  · obtain ⟨v, rfl, _⟩ := h
    rfl
  · obtain ⟨v, rfl, h⟩ := h
    refine ⟨_, (pss_cons (ps_expr (pe_calS c__check_walk (takes_of rfl rfl rfl rfl) (hr.mono (by decide)) rfl (pa_cons (pv 0) pa_nil)))
  (pss_cons (ps_asg (pe_cal c_walk (hr.mono (by decide)) rfl (pa_cons (pv 0) pa_nil)) (pg_tup rfl (pgs_cons (pg_name (i := 1) sc_cycle_of.nd rfl (Or.inl rfl)) (pgs_cons (pg_name (i := 2) sc_cycle_of.nd rfl (Or.inl rfl)) pgs_nil))))
  (pss_one (ps_ret (pe_callTy cr_tupOf rfl B.tuple boot_tuple (pa_cons (pv 1) pa_nil)))))), ?_⟩
    walk_at "rd"
    refine h.to fun f hI ⟨k, hL, q⟩ H1 s1 => ?_
    refine ⟨v, f, k, rfl, hI.same s1, hL, fun q1 H2 s2 n2 hq1 => ?_⟩
    obtain ⟨pf, pt, xs, ys, e0, e1, e2, e3, e4⟩ := hq1
    refine ⟨q1, rfl, _, SqT.of e0, rfl, _, _, rfl, _, _, rfl, rfl, ?_⟩
    exact ⟨pf, rfl, xs, .inl ⟨SqL.of e1, fun l nl => q l xs _ ((s1.trans s2).trans (same_upd nl)) ((s1.trans s2).free nl) upd_same (atsN_same (same_upd nl) e2)⟩⟩
abbrev s_turns_of : Stmt := top 39
theorem sc_turns_of : FnScope ["f", "_", "turns"] ["f"] (defScope s_turns_of) := ⟨rfl, rfl, rfl, by decide +kernel, rfl, by decide +kernel, by decide +kernel⟩

def spTrn (K : PySem.W.Frag) (CM CR : Addr) : Sp := fun vs H Q E => ∃ v : V, vs = [v] ∧ OrW K CM CR H v E fun f => ∃ k, Lap f k ∧ ∀ q xs H', Same H H' → H q = none → H' q = some (.tup xs) → AtsN H' xs (Tl (rtF f) f k) → Q (.ref q) H'
theorem cal_trn (D : Dn K mg "turns_of" s_turns_of ["f"]) (B : Bl mg) (c__check_walk : CalX P w K mg base "_check_walk" 7 ["f"] (spCWalk K CM CR)) (c_walk : Cal P w K mg base "walk" 3 ["f"] spWalk) : CalX P w K mg base "turns_of" 8 ["f"] (spTrn K CM CR) := by
  refine D.calX sc_turns_of (fun vs H Q E h => ?_) (fun f cdv A outer s H vs Q E hr h => ?_)
  · obtain ⟨v, rfl, _⟩ := h
    rfl
  · obtain ⟨v, rfl, h⟩ := h
    refine ⟨_, (pss_cons (ps_expr (pe_calS c__check_walk (takes_of rfl rfl rfl rfl) (hr.mono (by decide)) rfl (pa_cons (pv 0) pa_nil)))
  (pss_cons (ps_asg (pe_cal c_walk (hr.mono (by decide)) rfl (pa_cons (pv 0) pa_nil)) (pg_tup rfl (pgs_cons (pg_name (i := 1) sc_turns_of.nd rfl (Or.inl rfl)) (pgs_cons (pg_name (i := 2) sc_turns_of.nd rfl (Or.inl rfl)) pgs_nil))))
  (pss_one (ps_ret (pe_callTy cr_tupOf rfl B.tuple boot_tuple (pa_cons (pv 2) pa_nil)))))), ?_⟩
    walk_at "rd"
    refine h.to fun f hI ⟨k, hL, q⟩ H1 s1 => ?_
    refine ⟨v, f, k, rfl, hI.same s1, hL, fun q1 H2 s2 n2 hq1 => ?_⟩
    obtain ⟨pf, pt, xs, ys, e0, e1, e2, e3, e4⟩ := hq1
    refine ⟨q1, rfl, _, SqT.of e0, rfl, _, _, rfl, _, _, rfl, rfl, ?_⟩
    exact ⟨pt, rfl, ys, .inl ⟨SqL.of e3, fun l nl => q l ys _ ((s1.trans s2).trans (same_upd nl)) ((s1.trans s2).free nl) upd_same (atsN_same (same_upd nl) e4)⟩⟩
end

section
variable {P : Program} {w : World} {K : PySem.W.Frag} {mg : Str → Option Value} {base : Heap} {CM CR aU a1 a2 : Addr}
abbrev s__law_says : Stmt := top 45
theorem sc__law_says : FnScope ["value", "due"] ["value", "due"] (defScope s__law_says) := ⟨rfl, rfl, rfl, by decide +kernel, rfl, by decide +kernel, by decide +kernel⟩

def spSays : Sp := fun vs H Q _ => ∃ a b : Bool, vs = [.bl a, .bl b] ∧ Q (.bl (a == b)) H
theorem cal_says (D : Dn K mg "_law_says" s__law_says ["value", "due"]) (B : Bl mg) : Cal P w K mg base "_law_says" 1 ["value", "due"] spSays := by
  refine D.cal sc__law_says (fun vs H Q E h => ?_) (fun f cdv A outer s H vs Q E hr h => ?_)
  · obtain ⟨a, b, rfl, _⟩ := h
    rfl
  · obtain ⟨a, b, rfl, q⟩ := h
    refine ⟨_, (pss_one (ps_ret (pe_and (pe_callB call_isi rfl B.isinstance (by decide +kernel) (pa_cons (pv 0) (pa_cons (pe_bltn (v := .ty "bool") rfl B.bool boot_bool rfl) pa_nil))) (pe_one (pe_cmpR op_eq (pv 0) (pv 1) (nomark _)))))), ?_⟩
    walk_at "rd"
    refine isi_mk (.base (.bl a)) (b := true) (by decide +kernel) ⟨true, rfl, ?_⟩
    rw [if_pos rfl]
    refine ⟨by simp [scal], ?_⟩
    try walk_at "rd"
    have e : (decide (a = b)) = (a == b) := by cases a <;> cases b <;> rfl
    first
    | exact q
    | (rw [← e] at q; exact q)
abbrev s__law_disc : Stmt := top 48
theorem sc__law_disc : FnScope ["f"] ["f"] (defScope s__law_disc) := ⟨rfl, rfl, rfl, by decide +kernel, rfl, by decide +kernel, by decide +kernel⟩

def spLDisc : Sp := fun vs H Q _ => ∃ (p : Addr) (a b c : Int), vs = [.ref p] ∧ H p = some (.tup [.int a, .int b, .int c]) ∧ IntMulOk b b ∧ IntMulOk (4 * a) c ∧ Q (.int (dsc a b c)) H
theorem cal_ldisc (D : Dn K mg "_law_disc" s__law_disc ["f"]) (B : Bl mg) : Cal P w K mg base "_law_disc" 1 ["f"] spLDisc := by
  refine D.cal sc__law_disc (fun vs H Q E h => ?_) (fun f cdv A outer s H vs Q E hr h => ?_)
  · obtain ⟨p, a, b, c, rfl, _⟩ := h
    rfl
  · obtain ⟨p, a, b, c, rfl, hp, m1, m2, q⟩ := h
    have F := SqT.of (K := K) hp
    refine ⟨_, (pss_one (ps_ret (pe_op op_sub (pe_op op_mulI (pe_ix ix_tup (pv 0) pe_int (fun _ _ => rfl)) (pe_ix ix_tup (pv 0) pe_int (fun _ _ => rfl))) (pe_op op_mulI (pe_op op_mulI pe_int (pe_ix ix_tup (pv 0) pe_int (fun _ _ => rfl))) (pe_ix ix_tup (pv 0) pe_int (fun _ _ => rfl)))))), ?_⟩
    walk_at "rd"
    exact ⟨_, F, _, rfl, _, F, _, rfl, b, rfl, b, rfl, m1, _, F, _, rfl, a, rfl, mulL (by decide), _, F, _, rfl, c, rfl, m2, q⟩
abbrev s__law_on_cycle : Stmt := top 56
theorem sc__law_on_cycle : FnScope ["f", "s", "a", "b"] ["f", "s"] (defScope s__law_on_cycle) := ⟨rfl, rfl, rfl, by decide +kernel, rfl, by decide +kernel, by decide +kernel⟩

def spLOn : Sp := fun vs H Q _ => ∃ (p : Addr) (f : T3) (s : Int), vs = [.ref p, .int s] ∧ AtT H (.ref p) f ∧ Q (.bl (decide (fits s f))) H
theorem cal_lon (D : Dn K mg "_law_on_cycle" s__law_on_cycle ["f", "s"]) (B : Bl mg) : Cal P w K mg base "_law_on_cycle" 1 ["f", "s"] spLOn := by
  refine D.cal sc__law_on_cycle (fun vs H Q E h => ?_) (fun f cdv A outer s H vs Q E hr h => ?_)
  · obtain ⟨p, f, s, rfl, _⟩ := h
    rfl
  · obtain ⟨p, f, s', rfl, ⟨_, e, hp⟩, q⟩ := h
    cases e
    refine ⟨_, (pss_cons (ps_par (i := 2) (j := 3) rfl sc__law_on_cycle.nd rfl rfl (by decide) rfl rfl (pa_cons (pe_callB call_abs rfl B.abs (by decide +kernel) (pa_cons (pe_ix ix_tup (pv 0) pe_int (fun _ _ => rfl)) pa_nil)) (pa_cons (pe_ix ix_tup (pv 0) pe_int (fun _ _ => rfl)) pa_nil)) (by rfl))
  (pss_one (ps_ret (pe_and (pe_chain op_le op_le pe_int (pv 3) (pv 1)) (pe_and (pe_cmpR op_ge (pe_op op_add (pe_op op_mulI pe_int (pv 2)) (pv 3)) (pe_op op_add (pv 1) pe_int) (nomark _)) (pe_one (pe_cmpR op_le (pe_op op_sub (pe_op op_mulI pe_int (pv 2)) (pv 3)) (pv 1) (nomark _)))))))), ?_⟩
    rw [CB.rd_seq]
    walk_at "rs"
    have F := SqT.of (K := K) hp
    refine ⟨_, F, _, rfl, _, rfl, _, F, _, rfl, ?_⟩
    rw [iabs]
    have key : ∀ x : Bool, (x = true ↔ fits s' f) → Q (.bl x) H := fun x hx => fits_key (Q := fun v => Q v H) q hx
    have no : ¬ fits s' f → Q (.bl false) H := fun h => key false ⟨(fun z => by cases z), (fun z => absurd z h)⟩
    refine ⟨_, rfl, ite2 (fun c1 => ⟨_, rfl, ite2 (fun c2 => ⟨mulL (by decide), _, rfl, ite2 (fun c3 => ⟨mulL (by decide), _, rfl, key _ ?_⟩) (fun c3 => no (fun z => c3 ?_))⟩) (fun c2 => no (fun z => c2 z.2.1))⟩) (fun c1 => no (fun z => c1 z.1))⟩
    · rw [decide_eq_true_eq]
      exact ⟨fun z => ⟨c1, c2, by omega, z⟩, fun z => z.2.2.2⟩
    · have := z.2.2.1
      omega
abbrev s__law_next : Stmt := top 57
theorem sc__law_next : FnScope ["f", "s", "a", "b", "c", "m", "low", "other", "t"] ["f", "s"] (defScope s__law_next) := ⟨rfl, rfl, rfl, by decide +kernel, rfl, by decide +kernel, by decide +kernel⟩

theorem low_eq {s b c low : Int} (hs : 0 ≤ s) (hc : c ≠ 0) (h : low = if (c.natAbs : Int) > s then 1 - (c.natAbs : Int) else s + 1 - 2 * (c.natAbs : Int)) : low + (-b - low) % (2 * (c.natAbs : Int)) = newB s b c := by
  have nb := newB_bd (b := b) hc hs
  have m0 : 0 < 2 * (c.natAbs : Int) := by omega
  have r0 := Int.emod_nonneg (-b - low) (show 2 * (c.natAbs : Int) ≠ 0 by omega)
  have r1 := Int.emod_lt_of_pos (-b - low) m0
  refine emod_uniq m0 ?_ ?_ ?_
  · split at h <;> split at nb <;> omega
  · split at h <;> split at nb <;> omega
  · unfold newB
    have e1 := Int.emod_add_mul_ediv (-b - low) (2 * (c.natAbs : Int))
    generalize (if s > (c.natAbs : Int) then s else (c.natAbs : Int)) = top at *
    have e2 := Int.emod_add_mul_ediv (top + b) (2 * (c.natAbs : Int))
    refine ⟨-((top + b) / (2 * (c.natAbs : Int))) - (-b - low) / (2 * (c.natAbs : Int)), ?_⟩
    rw [Int.mul_sub, Int.mul_neg]
    omega
def spLNext : Sp := fun vs H Q _ => ∃ (p : Addr) (f : T3) (D s : Int), vs = [.ref p, .int s] ∧ AtT H (.ref p) f ∧ Good D s f ∧ ∀ q H', Same H H' → H q = none → AtP H' q (stp s f) (newT s f.2.1 f.2.2) → Q (.ref q) H'
theorem cal_lnext (D : Dn K mg "_law_next" s__law_next ["f", "s"]) (B : Bl mg) : Cal P w K mg base "_law_next" 1 ["f", "s"] spLNext := by
  refine D.cal sc__law_next (fun vs H Q E h => ?_) (fun f cdv A outer s H vs Q E hr h => ?_)
  · obtain ⟨p, f, D, s, rfl, _⟩ := h
    rfl
  · obtain ⟨p, f, DD, s', rfl, ⟨_, e, hp⟩, hG, q⟩ := h
    cases e
    obtain ⟨zn, zt⟩ := hG.new
    obtain ⟨hF, za, zb, zc, zs⟩ := hG
    have hc := hF.c
    refine ⟨_, (pss_cons (ps_asg (pv 0) (pg_tup rfl (pgs_cons (pg_name (i := 2) sc__law_next.nd rfl (Or.inl rfl)) (pgs_cons (pg_name (i := 3) sc__law_next.nd rfl (Or.inl rfl)) (pgs_cons (pg_name (i := 4) sc__law_next.nd rfl (Or.inl rfl)) pgs_nil)))))
  (pss_cons (ps_set (i := 5) sc__law_next.nd rfl (Or.inl rfl) (pe_callB call_abs rfl B.abs (by decide +kernel) (pa_cons (pv 4) pa_nil)))
  (pss_cons (ps_set (i := 6) sc__law_next.nd rfl (Or.inl rfl) (pe_ifExp (pt_cmpR op_gt (pv 5) (pv 1) (nomark _)) (pe_op op_sub pe_int (pv 5)) (pe_op op_sub (pe_op op_add (pv 1) pe_int) (pe_op op_mulI pe_int (pv 5)))))
  (pss_cons (ps_set (i := 7) sc__law_next.nd rfl (Or.inl rfl) (pe_op op_add (pv 6) (pe_op op_mod (pe_callTy call_int1 rfl B.int boot_int (pa_cons (pe_op op_sub (pe_un un_neg (pv 3)) (pv 6)) pa_nil)) (pe_op op_mulI pe_int (pv 5)))))
  (pss_cons (ps_set (i := 8) sc__law_next.nd rfl (Or.inl rfl) (pe_op op_fdivA (pe_op op_add (pv 3) (pv 7)) (pe_op op_mulI pe_int (pv 4))))
  (pss_one (ps_ret (pe_tup (pa_cons (pe_tup (pa_cons (pv 4) (pa_cons (pv 7) (pa_cons (pe_op op_add (pe_op op_sub (pv 2) (pe_op op_mulI (pv 3) (pv 8))) (pe_op op_mulI (pe_op op_mulI (pv 4) (pv 8)) (pv 8))) pa_nil)))) (pa_cons (pv 8) pa_nil)))))))))), ?_⟩
    rw [CB.rd_seq]
    walk_at "rs"
    refine ⟨_, SqT.of hp, rfl, _, _, rfl, _, _, rfl, _, _, rfl, rfl, ?_⟩
    show tSeq _ _ _ _ _
    rw [CB.rd_seq]
    walk_at "rs"
    rw [CB.rd_seq]
    walk_at "rs"
    rw [iabs]
    refine ite2 (fun c1 => ?_) (fun c1 => ⟨mulL (by decide), ?_⟩)
    all_goals
      rw [CB.rd_seq]
      walk_at "rs"
    · refine ⟨mulL (by decide), by omega, ?_⟩
      rw [low_eq (low := 1 - (f.2.2.natAbs : Int)) hF.2.1 hc (by rw [if_pos c1])]
      rw [CB.rd_seq]
      walk_at "rs"
      refine ⟨mulL (by decide), divA (n := 412) (by omega) ((z3_2.mul zc).le (by decide)) (by decide), ?_⟩
      rw [fdiv_t hc]
      refine ⟨zb.ok zt (by decide) (by decide), zc.ok zt (by decide) (by decide), (zc.mul zt).ok zt (by decide) (by decide), by decide, fun p1 n1 => ⟨by decide, fun p2 n2 => ?_⟩⟩
      exact q p2 _ ((same_upd n1).trans (same_upd n2)) ((same_upd n1).free n2) ⟨p1, upd_same, p1, rfl, same_upd n2 _ _ upd_same⟩
    · refine ⟨mulL (by decide), by omega, ?_⟩
      rw [low_eq (low := s' + 1 - 2 * (f.2.2.natAbs : Int)) hF.2.1 hc (by rw [if_neg c1])]
      rw [CB.rd_seq]
      walk_at "rs"
      refine ⟨mulL (by decide), divA (n := 412) (by omega) ((z3_2.mul zc).le (by decide)) (by decide), ?_⟩
      rw [fdiv_t hc]
      refine ⟨zb.ok zt (by decide) (by decide), zc.ok zt (by decide) (by decide), (zc.mul zt).ok zt (by decide) (by decide), by decide, fun p1 n1 => ⟨by decide, fun p2 n2 => ?_⟩⟩
      exact q p2 _ ((same_upd n1).trans (same_upd n2)) ((same_upd n1).free n2) ⟨p1, upd_same, p1, rfl, same_upd n2 _ _ upd_same⟩
abbrev s__law_led : Stmt := top 58
theorem sc__law_led : FnScope ["f", "s", "g", "m", "t"] ["f", "s"] (defScope s__law_led) := ⟨rfl, rfl, rfl, by decide +kernel, rfl, by decide +kernel, by decide +kernel⟩

def AtLM (H : Hp) (q : Addr) (f : T3) (m : M4) : Prop := ∃ x y, H q = some (.tup [x, y]) ∧ AtT H x f ∧ IsM H y m
def spLLed : Sp := fun vs H Q _ => ∃ (v : V) (f : T3), vs = [v, .int (rtF f)] ∧ IsIn H v f ∧ ∀ n q H', First f n → Same H H' → H q = none → AtLM H' q (it (rtF f) f n) (mt (rtF f) f n) → Q (.ref q) H'
theorem cal_lled (D : Dn K mg "_law_led" s__law_led ["f", "s"]) (B : Bl mg) (c__law_on_cycle : Cal P w K mg base "_law_on_cycle" 1 ["f", "s"] spLOn) (c__law_next : Cal P w K mg base "_law_next" 1 ["f", "s"] spLNext) (c__law_product : Cal P w K mg base "_law_product" 1 ["m", "n"] spProd) : Cal P w K mg base "_law_led" 2 ["f", "s"] spLLed := by
  refine D.cal sc__law_led (fun vs H Q E h => ?_) (fun f cdv A outer s H vs Q E hr h => ?_)
  · obtain ⟨v, f, rfl, _⟩ := h
    rfl
  · obtain ⟨v, f, rfl, hI, q⟩ := h
    have hg := hI.good
    have zD := hI.dsz
    obtain ⟨n, hn, hfit, hmin⟩ := hI.led
    obtain ⟨p, rfl, hp, hf, hd⟩ := hI
    refine ⟨_, (pss_cons (ps_par (i := 2) (j := 3) rfl sc__law_led.nd rfl rfl (by decide) rfl rfl (pa_cons (pv 0) (pa_cons (pe_tup (pa_cons (pe_tup (pa_cons pe_int (pa_cons pe_int pa_nil))) (pa_cons (pe_tup (pa_cons pe_int (pa_cons pe_int pa_nil))) pa_nil))) pa_nil)) (by rfl))
  (pss_cons (ps_while PassesOwn.never (pt_not (pt_val (pe_cal c__law_on_cycle (hr.mono (by decide)) rfl (pa_cons (pv 2) (pa_cons (pv 1) pa_nil))))) (pss_cons (ps_asg (pe_cal c__law_next (hr.mono (by decide)) rfl (pa_cons (pv 2) (pa_cons (pv 1) pa_nil))) (pg_tup rfl (pgs_cons (pg_name (i := 2) sc__law_led.nd rfl (Or.inl rfl)) (pgs_cons (pg_name (i := 4) sc__law_led.nd rfl (Or.inl rfl)) pgs_nil))))
  (pss_one (ps_set (i := 3) sc__law_led.nd rfl (Or.inl rfl) (pe_cal c__law_product (hr.mono (by decide)) rfl (pa_cons (pv 3) (pa_cons (pe_tup (pa_cons (pe_tup (pa_cons pe_int (pa_cons (pe_un un_neg pe_int) pa_nil))) (pa_cons (pe_tup (pa_cons pe_int (pa_cons (pv 4) pa_nil))) pa_nil))) pa_nil)))))))
  (pss_one (ps_ret (pe_tup (pa_cons (pv 2) (pa_cons (pv 3) pa_nil))))))), ?_⟩
    rw [CB.rd_seq]
    walk_at "rs"
    refine ⟨by decide, fun p1 n1 => ⟨by decide, fun p2 n2 => ⟨by decide, fun p3 n3 => ?_⟩⟩⟩
    obtain ⟨sA, mA⟩ := newM n1 n2 n3
    show tSeq _ _ _ _ _
    rw [CB.rd_seq]
    refine while_i n (fun i σ H' => ∃ x y s4, σ = [some (.ref p), some (.int (rtF f)), some x, some y, s4] ∧ Same H H' ∧ AtT H' x (it (rtF f) f i) ∧ IsM H' y (mt (rtF f) f i)) ⟨_, _, _, rfl, sA, ⟨p, rfl, sA _ _ hp⟩, mA⟩ ?_
    rintro i σ H' hi ⟨x, y, s4, rfl, sm, hx, hy⟩ N hN
    obtain ⟨px, rfl, hpx⟩ := hx
    refine ⟨!decide (fits (rtF f) (it (rtF f) f i)), fun Q' q' => ?_, fun hb => ?_, fun hb => ?_⟩
    · walk_at "rd"
      exact ⟨px, _, _, rfl, ⟨px, rfl, hpx⟩, _, rfl, q'⟩
    · have nf : ¬ fits (rtF f) (it (rtF f) f i) := by simpa using hb
      have hlt : i < n := by
        rcases Nat.lt_or_ge i n with z | z
        · exact z
        · exact absurd (by rw [show i = n by omega]; exact hfit) nf
      rw [CB.rd_seq]
      walk_at "rs"
      refine ⟨px, _, _, _, rfl, ⟨px, rfl, hpx⟩, good_it hg.1 zD i, fun q1 H2 s2 n2 hq1 => ?_⟩
      obtain ⟨g, h1, h2⟩ := hq1
      refine ⟨q1, rfl, _, SqT.of h1, rfl, _, _, rfl, _, _, rfl, rfl, ?_⟩
      refine ⟨by decide, fun p1 n1 => ⟨by decide, fun p2 n2 => ⟨by decide, fun p3 n3 => ?_⟩⟩⟩
      obtain ⟨sB, mB⟩ := newM n1 n2 n3
      obtain ⟨r, r1, r2, rfl, y1, y2, y3⟩ := hy
      have hy : IsM H' (.ref r) (mt (rtF f) f i) := ⟨r, r1, r2, rfl, y1, y2, y3⟩
      have z3 : Sz 3 0 ∧ Sz 3 (-1) ∧ Sz 3 1 := by unfold Sz; decide
      have z := mt_sz hg.1 zD i
      refine ⟨r, p3, _, _, rfl, hy.same (s2.trans sB), mB, ⟨z.1.le (by omega), z.2.1.le (by omega), z.2.2.1.le (by omega), z.2.2.2.le (by omega)⟩, ⟨z3.1.le (by decide), z3.2.1.le (by decide), z3.2.2.le (by decide), (good_it hg.1 zD i).new.2.le (by decide)⟩, fun q2 H3 s3 n3 hm => ?_⟩
      exact hN _ _ hlt ⟨_, _, _, rfl, ((sm.trans s2).trans sB).trans s3, AtT.same (sB.trans s3) h2, hm⟩
    · have yf : fits (rtF f) (it (rtF f) f i) := by simpa using hb
      have he : i = n := by
        rcases Nat.lt_or_ge i n with z | z
        · exact absurd yf (hmin i z)
        · omega
      subst he
      walk_at "rs"
      exact ⟨by decide, fun q1 n1 => q i q1 _ ⟨hn, hfit, hmin⟩ (sm.trans (same_upd n1)) (sm.free n1) ⟨_, _, upd_same, ⟨px, rfl, same_upd n1 _ _ hpx⟩, hy.same (same_upd n1)⟩⟩
abbrev s__law_cycle : Stmt := top 59
theorem sc__law_cycle : FnScope ["f", "s", "found", "turns", "g", "t"] ["f", "s"] (defScope s__law_cycle) := ⟨rfl, rfl, rfl, by decide +kernel, rfl, by decide +kernel, by decide +kernel⟩

def CycAt (H : Hp) (q : Addr) (f : T3) (k : Nat) : Prop := ∃ pf pt xs ys, H q = some (.tup [.ref pf, .ref pt]) ∧ H pf = some (.tup xs) ∧ AtsN H xs (Fl (rtF f) f k) ∧ H pt = some (.tup ys) ∧ AtsN H ys (Tl (rtF f) f k)
def spLCyc : Sp := fun vs H Q _ => ∃ (v : V) (f : T3) (k : Nat), vs = [v, .int (rtF f)] ∧ IsIn H v f ∧ Lap f k ∧ ∀ q H', Same H H' → H q = none → CycAt H' q f k → Q (.ref q) H'
theorem cal_lcyc (D : Dn K mg "_law_cycle" s__law_cycle ["f", "s"]) (B : Bl mg) (c__law_next : Cal P w K mg base "_law_next" 1 ["f", "s"] spLNext) : Cal P w K mg base "_law_cycle" 2 ["f", "s"] spLCyc := by
  refine D.cal sc__law_cycle (fun vs H Q E h => ?_) (fun f cdv A outer s H vs Q E hr h => ?_)
  · obtain ⟨v, f, k, rfl, _⟩ := h
    rfl
  · obtain ⟨v, f, k, rfl, hI, ⟨k0, kb, hk, hmin⟩, q⟩ := h
    have hg := hI.good
    have zD := hI.dsz
    obtain ⟨p, rfl, hp, hf, hd⟩ := hI
    refine ⟨_, (pss_cons (ps_par (i := 2) (j := 3) rfl sc__law_cycle.nd rfl rfl (by decide) rfl rfl (pa_cons (pe_lst pa_nil) (pa_cons (pe_lst pa_nil) pa_nil)) (by rfl))
  (pss_cons (ps_set (i := 4) sc__law_cycle.nd rfl (Or.inl rfl) (pv 0))
  (pss_cons (ps_while PassesOwn.never (PW.pt (pw_or (pt_cmpR op_eq (pe_callB cr_lenS rfl B.len (by decide +kernel) (pa_cons (pv 2) pa_nil)) pe_int (nomark _)) (pw_or1 (pt_cmpR (op_neD hr.units) (pv 4) (pv 0) (nomark _))))) (pss_cons (ps_expr (pe_bm PySem.F.plainAttrs_list PySem.F.slot_list_append PySem.F.type_list_append mt_append (pv 2) (pa_cons (pv 4) pa_nil)))
  (pss_cons (ps_asg (pe_cal c__law_next (hr.mono (by decide)) rfl (pa_cons (pv 4) (pa_cons (pv 1) pa_nil))) (pg_tup rfl (pgs_cons (pg_name (i := 4) sc__law_cycle.nd rfl (Or.inl rfl)) (pgs_cons (pg_name (i := 5) sc__law_cycle.nd rfl (Or.inl rfl)) pgs_nil))))
  (pss_one (ps_expr (pe_bm PySem.F.plainAttrs_list PySem.F.slot_list_append PySem.F.type_list_append mt_append (pv 3) (pa_cons (pv 5) pa_nil)))))))
  (pss_one (ps_ret (pe_tup (pa_cons (pe_callTy cr_tupOf rfl B.tuple boot_tuple (pa_cons (pv 2) pa_nil)) (pa_cons (pe_callTy cr_tupOf rfl B.tuple boot_tuple (pa_cons (pv 3) pa_nil)) pa_nil)))))))), ?_⟩
    rw [CB.rd_seq]
    walk_at "rs"
    refine ⟨by decide, fun pf nf => ⟨by decide, fun pt nt => ?_⟩⟩
    show tSeq _ _ _ _ _
    rw [CB.rd_seq]
    walk_at "rs"
    rw [CB.rd_seq]
    have sB := same_upd (o := HO.lst []) nf
    have sC := same_upd (o := HO.lst []) nt
    have nfH : H pf = none := nf
    have ntH : H pt = none := sB.free nt
    have ne : pf ≠ pt := fun e => by
      rw [← e, upd_same] at nt
      cases nt
    refine while_i k (fun i σ H' => ∃ g xs ys s5, σ = [some (.ref p), some (.int (rtF f)), some (.ref pf), some (.ref pt), some g, s5] ∧ Same H H' ∧ AtT H' g (it (rtF f) f i) ∧ H' pf = some (.lst xs) ∧ AtsN H' xs (Fl (rtF f) f i) ∧ H' pt = some (.lst ys) ∧ AtsN H' ys (Tl (rtF f) f i))
      ⟨.ref p, _, _, _, rfl, sB.trans sC, ⟨p, rfl, sC _ _ (sB _ _ hp)⟩, sC _ _ upd_same, trivial, upd_same, trivial⟩ ?_
    rintro i σ H' hi ⟨g, xs, ys, s5, rfl, sm, hg', hxs, ax, hys, ay⟩ N hN
    have lx := atsN_len ax
    have ly := atsN_len ay
    rw [Fl_len] at lx
    rw [Tl_len] at ly
    refine ⟨decide (i = 0 ∨ it (rtF f) f i ≠ f), fun Q' q' => ?_, fun hb => ?_, fun hb => ?_⟩
    · walk_at "rd"
      refine ⟨xs.length, .inl ⟨xs, SqL.of hxs, rfl⟩, ?_⟩
      rw [lx]
      refine ite2 (fun c => ?_) (fun c => ?_)
      · rw [decide_eq_true (.inl (by omega))] at q'
        exact q'
      · refine ⟨dT3 _, dT3 f, atT_dp hg', atT_dp ⟨p, rfl, sm _ _ hp⟩, shaped_one _, shaped_one _, ?_⟩
        rw [eqv_t3]
        refine ⟨_, rfl, ?_⟩
        have e : (!decide (it (rtF f) f i = f)) = decide (i = 0 ∨ it (rtF f) f i ≠ f) := by
          have i0 : i ≠ 0 := by omega
          by_cases z : it (rtF f) f i = f
          · rw [decide_eq_true z, decide_eq_false (fun y => y.elim i0 (fun y => y z))]
            rfl
          · rw [decide_eq_false z, decide_eq_true (.inr z)]
            rfl
        rw [e]
        exact q'
    · have nf : i = 0 ∨ it (rtF f) f i ≠ f := of_decide_eq_true hb
      have hlt : i < k := by
        rcases Nat.lt_or_ge i k with z | z
        · exact z
        · rcases nf with nf | nf
          · omega
          · exact absurd (by rw [show i = k by omega]; exact hk) nf
      rw [CB.rd_seq]
      walk_at "rs"
      refine ⟨tyL hxs, _, hxs, small_size (by omega), ?_⟩
      have sD : Same H (upd H' pf (.lst (xs ++ [g]))) := same_at sm nfH
      have ax2 : AtsN (upd H' pf (.lst (xs ++ [g]))) (xs ++ [g]) (Fl (rtF f) f (i + 1)) := by
        rw [Fl_succ]
        exact atsN_L hxs (atsN_snoc (i := Itm.T _) hg' ax)
      have ay2 := atsN_L (o := .lst (xs ++ [g])) hxs ay
      have hg2 : AtT (upd H' pf (.lst (xs ++ [g]))) g (it (rtF f) f i) := by
        obtain ⟨r, e, hr⟩ := hg'
        exact ⟨r, e, by rw [upd_ne (ne_of hr hxs (by intro z; cases z))]; exact hr⟩
      have hx2 : (upd H' pf (.lst (xs ++ [g]))) pf = some (.lst (xs ++ [g])) := upd_same
      have hy2 : (upd H' pf (.lst (xs ++ [g]))) pt = some (.lst ys) := by rw [upd_ne (fun e => ne e.symm)]; exact hys
      generalize upd H' pf (.lst (xs ++ [g])) = H2 at *
      rw [CB.rd_seq]
      walk_at "rs"
      obtain ⟨r, rfl, hr2⟩ := hg2
      refine ⟨r, _, _, _, rfl, ⟨r, rfl, hr2⟩, good_it hg.1 zD i, fun q2 H3 s3 n3 hq2 => ?_⟩
      obtain ⟨g3, e1, e2⟩ := hq2
      refine ⟨q2, rfl, _, SqT.of e1, rfl, _, _, rfl, _, _, rfl, rfl, ?_⟩
      refine ⟨tyL (s3 _ _ hy2), _, s3 _ _ hy2, small_size (by omega), ?_⟩
      refine hN _ _ hlt ⟨.ref g3, xs ++ [.ref r], _, _, rfl, same_at (sD.trans s3) ntH, ?_, ?_, ?_, upd_same, ?_⟩
      · obtain ⟨r', e, hr⟩ := e2
        exact ⟨r', e, by rw [upd_ne (ne_of hr (s3 _ _ hy2) (by intro z; cases z))]; exact hr⟩
      · rw [upd_ne ne]
        exact s3 _ _ hx2
      · exact atsN_L (s3 _ _ hy2) (atsN_same s3 ax2)
      · rw [Tl_succ]
        exact atsN_L (s3 _ _ hy2) (atsN_snoc (i := Itm.I _) rfl (atsN_same s3 ay2))
    · have yf : ¬ (i = 0 ∨ it (rtF f) f i ≠ f) := of_decide_eq_false hb
      have he : i = k := by
        rcases Nat.lt_or_ge i k with z | z
        · refine absurd (.inr (hmin i ?_ z)) yf
          have : i ≠ 0 := fun e => yf (.inl e)
          omega
        · omega
      subst he
      walk_at "rs"
      exact ⟨xs, .inl ⟨SqL.of hxs, fun l nl => ⟨ys, .inl ⟨SqL.of (same_upd nl _ _ hys), fun l2 nl2 => ⟨by decide, fun q1 n1 => q q1 _ (((sm.trans (same_upd nl)).trans (same_upd nl2)).trans (same_upd n1)) (((sm.trans (same_upd nl)).trans (same_upd nl2)).free n1)
        ⟨l, l2, xs, ys, upd_same, same_upd n1 _ _ (same_upd nl2 _ _ upd_same), atsN_same (((same_upd nl).trans (same_upd nl2)).trans (same_upd n1)) ax, same_upd n1 _ _ upd_same, atsN_same (((same_upd nl).trans (same_upd nl2)).trans (same_upd n1)) ay⟩⟩⟩⟩⟩⟩
end

section
variable {P : Program} {w : World} {K : PySem.W.Frag} {mg : Str → Option Value} {base : Heap} {CM CR : Addr}
abbrev s__law_is_told_disc : Stmt := top 53
theorem sc__law_is_told_disc : FnScope ["d"] ["d"] (defScope s__law_is_told_disc) := ⟨rfl, rfl, rfl, by decide +kernel, rfl, by decide +kernel, by decide +kernel⟩

theorem discB_neg {n : Int} (h : n < 0) : discB n = decide (n % 4 < 2) := by
  unfold discB
  rw [isq_neg h]
  by_cases c : n % 4 < 2
  · rw [decide_eq_true c, decide_eq_true (by omega)]
    rfl
  · rw [decide_eq_false c, decide_eq_false (by omega)]
    rfl
/-- no integer, or an integer -/
def spTD (K : PySem.W.Frag) : Sp := fun vs H Q _ => ∃ v : V, vs = [v] ∧ ((∃ T, TyX K H v (.type T) ∧ T ∈ kinds ∧ (T == "int") = false ∧ Q (.bl false) H) ∨ ∃ n : Int, v = .int n ∧ n < BIG ∧ Q (.bl (discB n)) H)
theorem cal_td (D : Dn K mg "_law_is_told_disc" s__law_is_told_disc ["d"]) (B : Bl mg) (c__law_whole : Cal P w K mg base "_law_whole" 1 ["value"] (spInt K)) (c__law_root : Cal P w K mg base "_law_root" 1 ["n"] spLawRoot) : Cal P w K mg base "_law_is_told_disc" 2 ["d"] (spTD K) := by
  refine D.cal sc__law_is_told_disc (fun vs H Q E h => ?_) (fun f cdv A outer s H vs Q E hr h => ?_)
  · obtain ⟨v, rfl, _⟩ := h
    rfl
  · obtain ⟨v, rfl, ⟨T, ty, hT, hi, q⟩ | ⟨n, rfl, hn, q⟩⟩ := h
    · refine ⟨_, (pss_one (ps_ret (pe_and (pe_cal c__law_whole (hr.mono (by decide)) rfl (pa_cons (pv 0) pa_nil)) (pe_and (pe_cmpR op_lt (pe_op op_mod (pe_callTy call_int1 rfl B.int boot_int (pa_cons (pv 0) pa_nil)) pe_int) pe_int (nomark _)) (pe_and (pe_cmpR op_ne (pv 0) pe_int (nomark _)) (pe_one (pe_or (pe_cmpR op_lt (pv 0) pe_int (nomark _)) (pe_one (pe_cmpR op_ne (pe_op op_powI (pe_cal c__law_root (hr.mono (by decide)) rfl (pa_cons (pv 0) pa_nil)) pe_int) (pv 0) (nomark _)))))))))), ?_⟩
      walk_at "rd"
      refine ⟨v, T, rfl, ty, hT, false, by rw [hi], ?_⟩
      rw [if_neg (by decide)]
      exact q
    refine ⟨_, (pss_one (ps_ret (pe_and (pe_cal c__law_whole (hr.mono (by decide)) rfl (pa_cons (pv 0) pa_nil)) (pe_and (pe_cmpR op_lt (pe_op op_mod (pe_callTy call_int1 rfl B.int boot_int (pa_cons (pv 0) pa_nil)) pe_int) pe_int (nomark _)) (pe_and (pe_cmpR op_ne (pv 0) pe_int (nomark _)) (pe_one (pe_or (pe_cmpR op_lt (pv 0) pe_int (nomark _)) (pe_one (pe_cmpR op_ne (pe_op op_powI (pe_cal c__law_root (hr.mono (by decide)) rfl (pa_cons (pv 0) pa_nil)) pe_int) (pv 0) (nomark _)))))))))), ?_⟩
    walk_at "rd"
    refine ⟨.int n, "int", rfl, .base (.int n), by decide, true, rfl, ?_⟩
    rw [if_pos rfl]
    refine ⟨by decide, ite2 (fun c1 => ?_) (fun c1 => ?_)⟩
    · refine ite2 (fun c2 => ?_) (fun c2 => ?_)
      · subst c2
        exact q
      · refine ite2 (fun c3 => ?_) (fun c3 => ⟨n, rfl, by omega, hn, ?_⟩)
        · rw [discB_neg c3, decide_eq_true c1] at q
          exact q
        · try walk_at "rd"
          refine ⟨powI (n := 3004) (isq_big (by omega) hn) (by decide) (by decide) (by decide), ?_⟩
          have e : (!decide (isq n ^ (2 : Int).toNat = n)) = discB n := by
            unfold discB sqB
            rw [decide_eq_true (show n % 4 = 0 ∨ n % 4 = 1 by omega), Bool.true_and, show (2 : Int).toNat = 2 from rfl, Int.pow_succ, Int.pow_succ, Int.pow_zero, Int.one_mul]
            by_cases c : isq n * isq n = n
            · rw [decide_eq_true c, decide_eq_true ⟨by omega, c⟩]
            · rw [decide_eq_false c, decide_eq_false fun z => c z.2]
          show Q (.bl (!decide (isq n ^ (2 : Int).toNat = n))) H
          rw [e]
          exact q
    · have e : discB n = false := by
        unfold discB
        rw [decide_eq_false (by omega)]
        rfl
      rw [e] at q
      exact q
end

section
variable {P : Program} {w : World} {K : PySem.W.Frag} {mg : Str → Option Value} {base : Heap} {CM CR aU a1 a2 : Addr}
abbrev s__law_drawn_disc : Stmt := top 54
theorem sc__law_drawn_disc : FnScope ["state", "most", "sign", "d", "turn"] ["state", "most", "sign"] (defScope s__law_drawn_disc) := ⟨rfl, rfl, rfl, by decide +kernel, rfl, by decide +kernel, by decide +kernel⟩

def spDDp : Sp := fun vs H Q _ => ∃ (st : Addr) (x y m : Int), vs = [.ref st, .int m, .int 1] ∧ H st = some (.lst [.int x, .int y]) ∧ 2 < m ∧ m < 10000000000000000000 ∧
  ∀ d x' y' : Int, 3 ≤ d → d ≤ m + 6 → Q (.int d) (upd H st (.lst [.int x', .int y']))
theorem cal_ddp (D : Dn K mg "_law_drawn_disc" s__law_drawn_disc ["state", "most", "sign"]) (B : Bl mg) (c__law_take : Cal P w K mg base "_law_take" 1 ["state", "m"] spTake) (c__law_is_told_disc : Cal P w K mg base "_law_is_told_disc" 2 ["d"] (spTD K)) :
    Cal P w K mg base "_law_drawn_disc" 3 ["state", "most", "sign"] spDDp := by
  refine D.cal sc__law_drawn_disc (fun vs H Q E h => ?_) (fun f cdv A outer s H vs Q E hr h => ?_)
  · obtain ⟨st, x, y, m, rfl, _⟩ := h
    rfl
  · obtain ⟨st, x, y, m, rfl, hst, hm, hm2, q⟩ := h
    have hB := BIG_pos
    have hB2 : (20000000000000000000 : Int) < BIG := by decide +kernel
    refine ⟨_, (pss_cons (ps_set (i := 3) sc__law_drawn_disc.nd rfl (Or.inl rfl) (pe_op op_add pe_int (pe_cal c__law_take (hr.mono (by decide)) rfl (pa_cons (pv 0) (pa_cons (pe_op op_sub (pv 1) pe_int) pa_nil)))))
  (pss_cons (ps_for PassesOwn.never rfl (pi_range1 rfl B.range (pa_cons pe_int pa_nil)) (pg_name (i := 4) sc__law_drawn_disc.nd rfl (Or.inl rfl)) (pss_one (ps_if (pt_not (pt_val (pe_cal c__law_is_told_disc (hr.mono (by decide)) rfl (pa_cons (pe_op op_mulI (pv 2) (pv 3)) pa_nil)))) (pss_one (ps_set (i := 3) sc__law_drawn_disc.nd rfl (Or.inl rfl) (pe_op op_add (pv 3) pe_int))) pss_nil)))
  (pss_one (ps_ret (pe_op op_mulI (pv 2) (pv 3)))))), ?_⟩
    walk_at "rd"
    refine ⟨st, x, y, m - 2, rfl, hst, by omega, Nat.lt_of_le_of_lt (log_lt (k := 63) (by show (m - 2).natAbs < 2 ^ 64; omega)) (by decide), fun v x1 y1 v0 v1 => ?_⟩
    try walk_at "rd"
    refine ⟨by decide, by decide, ForR.w (fun i σ H1 => i ≤ 6 ∧ ∃ d s4, σ = [some (.ref st), some (.int m), some (.int 1), some (.int d), s4] ∧ H1 = upd H st (.lst [.int x1, .int y1]) ∧ 3 ≤ d ∧ d ≤ m + i) ⟨by decide, _, _, rfl, rfl, by omega, by omega⟩ ?_ ?_⟩
    · rintro i σ H1 hi ⟨hi6, d, s4, rfl, rfl, d3, dm⟩ N hN
      have hi' : i < 6 := hi
      walk_at "rd"
      refine ⟨mulL (by decide), .int (1 * d), rfl, .inr ⟨1 * d, rfl, by omega, ?_⟩⟩
      refine ⟨_, rfl, ite2 (fun c => ?_) (fun c => ?_)⟩
      · exact hN _ _ ⟨by omega, d + 1, _, rfl, rfl, by omega, by omega⟩
      · exact hN _ _ ⟨by omega, d, _, rfl, rfl, by omega, by omega⟩
    · rintro σ H1 ⟨_, d, s4, rfl, rfl, d3, dm⟩
      walk_at "rd"
      refine ⟨mulL (by decide), ?_⟩
      rw [show 1 * d = d by omega]
      exact q d x1 y1 d3 (by have e6 : ((6 : Int).toNat : Int) = 6 := rfl; omega)
/-- a discriminant is near -/
theorem disc_near {d : Int} (h : 3 ≤ d) : ∃ n, d ≤ n ∧ n ≤ d + 7 ∧ discB n = true := by
  have nsq : ∀ n : Int, 3 ≤ n → ¬ (isq n * isq n = n ∧ isq (n + 4) * isq (n + 4) = n + 4) := fun n hn ⟨e1, e2⟩ => by
    have a0 := isq_nn n
    have b0 := isq_nn (n + 4)
    generalize isq n = a at *
    generalize isq (n + 4) = b at *
    rcases Int.lt_or_le a b with z | z
    · have q : (a + 1) * (a + 1) ≤ b * b := Int.mul_le_mul (by omega) (by omega) (by omega) (by omega)
      have e : (a + 1) * (a + 1) = a * a + 2 * a + 1 := by grind
      have a1 : a ≤ 1 := by omega
      have : a = 0 ∨ a = 1 := by omega
      rcases this with rfl | rfl <;> omega
    · have q : b * b ≤ a * a := Int.mul_le_mul z z b0 a0
      omega
  have one : ∀ n : Int, 3 ≤ n → n % 4 = 0 → isq n * isq n ≠ n → discB n = true := fun n hn h4 hs => by
    unfold discB sqB
    rw [decide_eq_true (.inl h4), decide_eq_false (fun z => hs z.2)]
    rfl
  have key : ∀ n : Int, 3 ≤ n → n % 4 = 0 → ∃ k, n ≤ k ∧ k ≤ n + 4 ∧ discB k = true := fun n hn h4 => by
    by_cases c : isq n * isq n = n
    · exact ⟨n + 4, by omega, by omega, one _ (by omega) (by omega) fun z => nsq n hn ⟨c, z⟩⟩
    · exact ⟨n, by omega, by omega, one _ hn h4 c⟩
  obtain ⟨k, h1, h2, h3⟩ := key (d + (-d) % 4) (by omega) (by omega)
  exact ⟨k, by omega, by omega, h3⟩
theorem disc_mod {d b : Int} (h : discB d = true) (hb : b % 2 = d % 2) : 4 * ((b * b - d) / 4) = b * b - d := by
  unfold discB at h
  simp only [Bool.and_eq_true, decide_eq_true_eq] at h
  have h4 := h.1
  rcases Int.emod_two_eq b with e | e
  · obtain ⟨j, rfl⟩ : ∃ j, b = 2 * j := ⟨b / 2, by omega⟩
    have e2 : 2 * j * (2 * j) = 4 * (j * j) := by grind
    omega
  · obtain ⟨j, rfl⟩ : ∃ j, b = 2 * j + 1 := ⟨b / 2, by omega⟩
    have e2 : (2 * j + 1) * (2 * j + 1) = 4 * (j * j + j) + 1 := by grind
    omega
abbrev s__law_drawn_indefinite : Stmt := top 60
theorem sc__law_drawn_indefinite : FnScope ["state", "most", "d", "b", "m", "parts", "a"] ["state", "most"] (defScope s__law_drawn_indefinite) := ⟨rfl, rfl, rfl, by decide +kernel, rfl, by decide +kernel, by decide +kernel⟩

def spDInd : Sp := fun vs H Q _ => ∃ (st : Addr) (x y m : Int), vs = [.ref st, .int m] ∧ H st = some (.lst [.int x, .int y]) ∧ 2 < m ∧ m ≤ 1000000000000000000 ∧
  ∀ (p : Addr) (f : T3) (x' y' : Int) (H' : Hp), But st H H' → H' st = some (.lst [.int x', .int y']) → H' p = some (.tup [.int f.1, .int f.2.1, .int f.2.2]) → discB (dsc f.1 f.2.1 f.2.2) = true → 0 < dsc f.1 f.2.1 f.2.2 → Sz 70 f.1 → Sz 70 f.2.1 → Sz 70 f.2.2 → Sz 70 (dsc f.1 f.2.1 f.2.2) → Q (.ref p) H'
theorem cal_dind (D : Dn K mg "_law_drawn_indefinite" s__law_drawn_indefinite ["state", "most"]) (B : Bl mg) (c__law_take : Cal P w K mg base "_law_take" 1 ["state", "m"] spTake) (c__law_drawn_disc : Cal P w K mg base "_law_drawn_disc" 3 ["state", "most", "sign"] spDDp)
    (c__law_is_told_disc : Cal P w K mg base "_law_is_told_disc" 2 ["d"] (spTD K)) : Cal P w K mg base "_law_drawn_indefinite" 4 ["state", "most"] spDInd := by
  refine D.cal sc__law_drawn_indefinite (fun vs H Q E h => ?_) (fun f cdv A outer s H vs Q E hr h => ?_)
  · obtain ⟨st, x, y, m, rfl, _⟩ := h
    rfl
  · obtain ⟨st, x, y, m, rfl, hst, hm, hm2, q⟩ := h
    have hB2 : (20000000000000000000 : Int) < BIG := by decide +kernel
    refine ⟨_, (pss_cons (ps_set (i := 2) sc__law_drawn_indefinite.nd rfl (Or.inl rfl) (pe_cal c__law_drawn_disc (hr.mono (by decide)) rfl (pa_cons (pv 0) (pa_cons (pv 1) (pa_cons pe_int pa_nil)))))
  (pss_cons (ps_while PassesOwn.never (pt_not (pt_val (pe_cal c__law_is_told_disc (hr.mono (by decide)) rfl (pa_cons (pv 2) pa_nil)))) (pss_one (ps_set (i := 2) sc__law_drawn_indefinite.nd rfl (Or.inl rfl) (pe_op op_add (pv 2) pe_int))))
  (pss_cons (ps_set (i := 3) sc__law_drawn_indefinite.nd rfl (Or.inl rfl) (pe_ix ix_list (pe_lst (pa_cons (pe_op op_mod (pe_callTy call_int1 rfl B.int boot_int (pa_cons (pv 2) pa_nil)) pe_int) (pa_cons (pe_op op_add (pe_op op_mod (pe_callTy call_int1 rfl B.int boot_int (pa_cons (pv 2) pa_nil)) pe_int) (pe_op op_mulI pe_int (pe_cal c__law_take (hr.mono (by decide)) rfl (pa_cons (pv 0) (pa_cons pe_int pa_nil))))) (pa_cons (pe_un un_neg (pe_op op_add (pe_op op_mod (pe_callTy call_int1 rfl B.int boot_int (pa_cons (pv 2) pa_nil)) pe_int) (pe_op op_mulI pe_int (pe_cal c__law_take (hr.mono (by decide)) rfl (pa_cons (pv 0) (pa_cons pe_int pa_nil)))))) pa_nil)))) (pe_cal c__law_take (hr.mono (by decide)) rfl (pa_cons (pv 0) (pa_cons pe_int pa_nil))) (fun _ _ => rfl)))
  (pss_cons (ps_set (i := 4) sc__law_drawn_indefinite.nd rfl (Or.inr rfl) (pe_op op_fdivW (pe_op op_sub (pe_op op_mulI (pv 3) (pv 3)) (pv 2)) pe_int))
  (pss_cons (ps_setLc (i := 5) (own := [("a", 6)]) rfl sc__law_drawn_indefinite.nd rfl rfl (sw_true rfl rfl rfl (by decide +kernel)) (pi_range2 rfl B.range (pa_cons pe_int (pa_cons pe_int pa_nil))) (blkOk_by (N := ["state", "most", "d", "b", "m", "parts", "a"]) (sc := defScope s__law_drawn_indefinite) (own := [("a", 6)]) (by decide +kernel)) (fun _ _ _ _ _ => (pg_name (i := 6) sc__law_drawn_indefinite.nd rfl (Or.inl rfl))) (fun _ _ _ _ _ => (pts_one (pt_cmpR op_eq (pe_op op_mod (pe_callTy call_int1 rfl B.int boot_int (pa_cons (pv 4) pa_nil)) (pv 6)) pe_int (nomark _)))) (fun _ _ _ _ _ => (pv 6)))
  (pss_cons (ps_set (i := 6) sc__law_drawn_indefinite.nd rfl (Or.inl rfl) (pe_op op_mulI (pe_ix ix_list (pv 5) (pe_cal c__law_take (hr.mono (by decide)) rfl (pa_cons (pv 0) (pa_cons (pe_callB cr_lenS rfl B.len (by decide +kernel) (pa_cons (pv 5) pa_nil)) pa_nil))) (fun _ _ => rfl)) (pe_op op_sub pe_int (pe_op op_mulI pe_int (pe_cal c__law_take (hr.mono (by decide)) rfl (pa_cons (pv 0) (pa_cons pe_int pa_nil)))))))
  (pss_one (ps_ret (pe_tup (pa_cons (pv 6) (pa_cons (pv 3) (pa_cons (pe_op op_fdivA (pv 4) (pv 6)) pa_nil)))))))))))), ?_⟩
    rw [CB.rd_seq]
    walk_at "rs"
    refine ⟨st, x, y, m, rfl, hst, by omega, by omega, fun d0 x1 y1 d3 d6 => ?_⟩
    show tSeq _ _ _ _ _
    rw [CB.rd_seq]
    obtain ⟨N0, hN1, hN2, hN3⟩ := disc_near d3
    refine while_w (fun σ H1 => ∃ d, σ = [some (.ref st), some (.int m), some (.int d), none, none, none, none] ∧ H1 = upd H st (.lst [.int x1, .int y1]) ∧ 3 ≤ d ∧ d ≤ N0)
      (fun σ _ => match σ with | [_, _, some (.int d), _, _, _, _] => (N0 - d).toNat | _ => 0) ⟨d0, rfl, rfl, d3, hN1⟩ ?_
    rintro σ H1 ⟨d, rfl, rfl, g3, gN⟩ N hN
    refine ⟨!discB d, fun Q' q' => ?_, fun hb => ?_, fun hb => ?_⟩
    · walk_at "rd"
      exact ⟨.int d, rfl, .inr ⟨d, rfl, by omega, _, rfl, q'⟩⟩
    · have nd : discB d = false := by simpa using hb
      have ne : d ≠ N0 := fun e => by rw [e, hN3] at nd; cases nd
      walk_at "rs"
      exact hN _ _ ⟨d + 1, rfl, rfl, by omega, by omega⟩ (by show (N0 - (d + 1)).toNat < (N0 - d).toNat; omega)
    have yd : discB d = true := by simpa using hb
    clear hN
    show tSeq _ _ _ _ _
    rw [CB.rd_seq]
    walk_at "rs"
    rw [CB.rd_seq]
    walk_at "rs"
    refine ⟨by decide, by decide, st, x1, y1, 20, rfl, upd_same, by decide, by decide +kernel, fun u x2 y2 u0 u1 => ⟨u, rfl, mulL (by decide), by decide, st, x2, y2, 9, rfl, upd_same, by decide, by decide +kernel, fun v x3 y3 v0 v1 => ⟨v, rfl, mulL (by decide), by decide, fun p np => ?_⟩⟩⟩
    have bt3 : But st H (upd (upd (upd H st (.lst [.int x1, .int y1])) st (.lst [.int x2, .int y2])) st (.lst [.int x3, .int y3])) := But.refl.upd.upd.upd
    have h3 : (upd (upd (upd H st (.lst [.int x1, .int y1])) st (.lst [.int x2, .int y2])) st (.lst [.int x3, .int y3])) st = some (.lst [.int x3, .int y3]) := upd_same
    generalize (upd (upd (upd H st (.lst [.int x1, .int y1])) st (.lst [.int x2, .int y2])) st (.lst [.int x3, .int y3])) = H3 at *
    have sp : p ≠ st := (ne_of_none h3 np).symm
    refine ⟨st, x3, y3, 3, rfl, same_upd np _ _ h3, by decide, by decide +kernel, fun e x4 y4 e0 e1 => ?_⟩
    have pick : ∃ b, atI [V.int (d % 2), V.int (d % 2 + 2 * u), V.int (-(d % 2 + 2 * v))] e = some (.int b) ∧ b % 2 = d % 2 ∧ -60 ≤ b ∧ b ≤ 60 := by
      have c : e = 0 ∨ e = 1 ∨ e = 2 := by omega
      rcases c with rfl | rfl | rfl <;> exact ⟨_, rfl, by omega, by omega, by omega⟩
    obtain ⟨b, eb, hb2, b1, b2⟩ := pick
    refine ⟨_, e, rfl, SqL.of (by rw [upd_ne sp]; exact upd_same), _, eb, ?_⟩
    have bt5 := ((bt3.same (same_upd (o := .lst [V.int (d % 2), V.int (d % 2 + 2 * u), V.int (-(d % 2 + 2 * v))]) np)).upd (o := .lst [.int x4, .int y4]))
    have h5 : (upd (upd H3 p (.lst [V.int (d % 2), V.int (d % 2 + 2 * u), V.int (-(d % 2 + 2 * v))])) st (.lst [.int x4, .int y4])) st = some (.lst [.int x4, .int y4]) := upd_same
    generalize (upd (upd H3 p (.lst [V.int (d % 2), V.int (d % 2 + 2 * u), V.int (-(d % 2 + 2 * v))])) st (.lst [.int x4, .int y4])) = H5 at *
    have zb : Sz 6 b := by unfold Sz; omega
    have e4 := disc_mod yd hb2
    rw [CB.rd_seq]
    walk_at "rs"
    refine ⟨zb.ok zb (by decide) (by decide), ⟨by decide, by decide +kernel⟩, ?_⟩
    generalize (b * b - d) / 4 = M at *
    rw [CB.rd_seq]
    walk_at "rs"
    refine ⟨by decide, by decide, by decide, by decide, LcR.w (fun i D zs H6 => ∃ ns : List Int, zs = ns.map V.int ∧ ns.length ≤ i ∧ (∀ k ∈ ns, 1 ≤ k ∧ k < 40 ∧ M % k = 0) ∧ (0 < i → 0 < ns.length) ∧ Same H5 H6 ∧ H6 D = some (.lst zs) ∧ H5 D = none) (fun D nD => ⟨[], rfl, Nat.le_refl _, (fun k hk => by simp at hk), (fun z => absurd z (by decide)), same_upd nD, upd_same, nD⟩) ?_ ?_⟩
    · rintro D i zs H6 hi ⟨ns, rfl, hl, hns, hpos, sm, hD, nD⟩ N hN
      have hi : i < 39 := hi
      walk_at "rs"
      refine ⟨by omega, ite2 (fun hdv => ?_) (fun hdv => ?_)⟩
      · refine ⟨_, hD, ?_, hN _ _ ⟨ns ++ [1 + (i : Int)], ?_, ?_, ?_, ?_, same_at sm nD, upd_same, nD⟩⟩
        · rw [List.length_map]
          exact small_size (by omega)
        · rw [List.map_append]
          rfl
        · rw [List.length_append]
          show ns.length + 1 ≤ i + 1
          omega
        · intro k hk
          rcases List.mem_append.mp hk with hk | hk
          · exact hns k hk
          · rw [List.mem_singleton.mp hk]
            exact ⟨by omega, by omega, hdv⟩
        · intro _
          rw [List.length_append]
          show 0 < ns.length + 1
          omega
      · refine hN _ _ ⟨ns, rfl, by omega, hns, fun _ => ?_, sm, hD, nD⟩
        rcases Nat.eq_zero_or_pos i with z | z
        · subst z
          exact absurd (Int.emod_one _) hdv
        · exact hpos z
    · rintro D zs H6 nD ⟨ns, rfl, hl, hns, hpos, sm, hD, nD5⟩
      have hl : ns.length ≤ 39 := hl
      have hpos : 0 < ns.length := hpos (by decide)
      try walk_at "rs"
      try rw [CB.rd_seq]
      try walk_at "rs"
      refine ⟨ns.length, .inl ⟨_, SqL.of hD, by rw [List.length_map]⟩, st, x4, y4, (ns.length : Int), rfl, sm _ _ h5, by omega, Nat.lt_of_le_of_lt (log_lt (k := 63) (by show ((ns.length : Int)).natAbs < 2 ^ 64; omega)) (by decide), fun t x7 y7 t0 t1 => ?_⟩
      have Ds : D ≠ st := (ne_of_none h5 nD5).symm
      obtain ⟨tn, rfl⟩ : ∃ tn : Nat, t = (tn : Int) := ⟨t.toNat, by omega⟩
      have htn : tn < ns.length := by omega
      have hk : ns[tn]? = some ns[tn] := List.getElem?_eq_getElem htn
      obtain ⟨k1, k2, k3⟩ := hns _ (List.getElem_mem htn)
      generalize ns[tn] = k at *
      refine ⟨_, (tn : Int), rfl, SqL.of (by rw [upd_ne Ds]; exact hD), _, atI_nat (by rw [List.getElem?_map, hk]; rfl), st, x7, y7, 2, rfl, upd_same, by decide, by decide +kernel, fun z x8 y8 z0 z1 => ?_⟩
      have ha : k * (1 - 2 * z) = k ∨ k * (1 - 2 * z) = -k := by
        have c : z = 0 ∨ z = 1 := by omega
        rcases c with rfl | rfl
        · left; omega
        · right; omega
      have zk : Sz 6 k := by unfold Sz; omega
      refine ⟨z, rfl, mulL (by decide), k, rfl, zk.ok (n := 3) (y := 1 - 2 * z) (by unfold Sz; omega) (by decide) (by decide), ?_⟩
      generalize k * (1 - 2 * z) = a at *
      have hM : M = k * (M / k) := by
        have := Int.emod_add_mul_ediv M k
        omega
      obtain ⟨j, hj⟩ : ∃ j, M = a * j := by
        rcases ha with rfl | rfl
        · exact ⟨_, hM⟩
        · exact ⟨-(M / k), by rw [Int.neg_mul_neg]; exact hM⟩
      have a0 : a ≠ 0 := by omega
      have za : Sz 6 a := by unfold Sz; omega
      refine ⟨divA (n := 6) a0 (za.le (by decide)) (by decide), by decide, fun r nr => ?_⟩
      rw [hj, Int.mul_fdiv_cancel_left _ a0]
      have ed : dsc a b j = d := by
        unfold dsc
        rw [Int.mul_assoc, ← hj]
        omega
      have bM : (M.natAbs : Int) ≤ 1000000000000010000 := by
        have q1 := zb
        have : b * b ≤ 3600 := by
          have := abs_sq (x := b) (y := 60) (by omega)
          omega
        have := sq_nn b
        omega
      have zj : Sz 70 j := by
        have am := abs_mul' a j
        rw [← hj] at am
        have : 1 * (j.natAbs : Int) ≤ (a.natAbs : Int) * (j.natAbs : Int) := Int.mul_le_mul_of_nonneg_right (by omega) (by omega)
        unfold Sz
        omega
      exact q r (a, b, j) x8 y8 _ ((((bt5.same sm).upd).upd).same (same_upd nr)) (same_upd nr _ _ upd_same) upd_same (by show discB (dsc a b j) = true; rw [ed]; exact yd) (by show 0 < dsc a b j; rw [ed]; omega) (za.le (by decide)) (zb.le (by decide)) zj (by show Sz 70 (dsc a b j); rw [ed]; unfold Sz; omega)
end

section
variable {P : Program} {w : World} {K : PySem.W.Frag} {mg : Str → Option Value} {base : Heap} {CM CR aU a1 a2 : Addr}
abbrev s__law_told : Stmt := top 61
theorem sc__law_told : FnScope ["which", "f", "e"] ["which", "f"] (defScope s__law_told) := ⟨rfl, rfl, rfl, by decide +kernel, rfl, by decide +kernel, by decide +kernel⟩

/-- no indefinite form, told by the heap -/
def NotIH (st : Addr) (H : Hp) (v : V) : Prop := NotFH st H v ∨ ∃ (p : Addr) (a b c : Int), v = .ref p ∧ H p = some (.tup [.int a, .int b, .int c]) ∧ formB a b c = true ∧ dsc a b c < 0
theorem NotIH.kp {st : Addr} {H H' : Hp} {v : V} (s : Kp st H H') (h : NotIH st H v) : NotIH st H' v := by
  rcases h with h | ⟨p, a, b, c, rfl, hp, hf⟩
  · exact .inl (h.kp s)
  · exact .inr ⟨p, a, b, c, rfl, s.1 _ _ hp, hf⟩
theorem NotIH.notI {st : Addr} {H : Hp} {v : V} (h : NotIH st H v) : NotIn K H v := by
  rcases h with h | h
  · exact .inl h.notF
  · exact .inr h
def spTold (K : PySem.W.Frag) : Sp := fun vs H Q _ => ∃ (st : Addr) (wh : Int) (v : V), vs = [.int wh, v] ∧
  ((0 ≤ wh ∧ wh ≤ 4 ∧ NotIH st H v ∧ ∀ H', Same H H' → Q (.str "malformed") H') ∨ ∃ f, IsIn H v f ∧
    ((wh = 1 ∧ ((lg3 (nxF f) = true ∧ ∀ H', Same H H' → Q (.str "large") H') ∨ (lg3 (nxF f) = false ∧ ∀ p ys H', Same H H' → H' p = some (.tup ys) → AtsN H' ys [.T (nxF f), .I (tnF f)] → Q (.ref p) H'))) ∨
     (wh = 2 ∧ ∀ n, First f n → ((lg3 (it (rtF f) f n) = true ∧ ∀ H', Same H H' → Q (.str "large") H') ∨ (lg3 (it (rtF f) f n) = false ∧ ∀ p ys H', Same H H' → H' p = some (.tup ys) → AtsN H' ys [.T (it (rtF f) f n), .M (mt (rtF f) f n)] → Q (.ref p) H'))) ∨
     ((wh = 3 ∨ wh = 4) ∧ ((1000000 < dsc f.1 f.2.1 f.2.2 ∧ ∀ H', Same H H' → Q (.str "large") H') ∨ (dsc f.1 f.2.1 f.2.2 ≤ 1000000 ∧ ¬ fits (rtF f) f ∧ ∀ H', Same H H' → Q (.str "cycle") H')))))
theorem cal_told (D : Dn K mg "_law_told" s__law_told ["which", "f"]) (B : Bl mg) (c_is_on_cycle : CalX P w K mg base "is_on_cycle" 6 ["f"] (spOnC K CM)) (c_next_form : CalX P w K mg base "next_form" 6 ["f"] (spNext K CM CR)) (c_lead_in : CalX P w K mg base "lead_in" 6 ["f"] (spLeadIn K CM CR))
    (c_cycle_of : CalX P w K mg base "cycle_of" 8 ["f"] (spCyc K CM CR)) (c_turns_of : CalX P w K mg base "turns_of" 8 ["f"] (spTrn K CM CR)) (c__law_plain : Cal P w K mg base "_law_plain" 5 ["value"] (spTup K)) (c__law_no_word : Cal P w K mg base "_law_no_word" 1 ["value"] (spNoWord K)) (e_E : ErrI P w K mg base CM CR) :
    Cal P w K mg base "_law_told" 9 ["which", "f"] (spTold K) := by
  refine D.cal sc__law_told (fun vs H Q E h => ?_) (fun f cdv A outer s H vs Q E hr h => ?_)
  · obtain ⟨st, wh, v, rfl, _⟩ := h
    rfl
  · obtain ⟨st, wh, v, rfl, h⟩ := h
    obtain ⟨fI, fdI, R, _, _⟩ := e_E.r
    obtain ⟨f_is_on_cycle, m_is_on_cycle, h0⟩ := c_is_on_cycle.held (kk := 8) (by decide)
    obtain ⟨f_next_form, m_next_form, h1⟩ := c_next_form.held (kk := 8) (by decide)
    obtain ⟨f_lead_in, m_lead_in, h2⟩ := c_lead_in.held (kk := 8) (by decide)
    obtain ⟨f_cycle_of, m_cycle_of, h3⟩ := c_cycle_of.held (kk := 8) (by decide)
    obtain ⟨f_turns_of, m_turns_of, h4⟩ := c_turns_of.held (kk := 8) (by decide)
    have AE : ∀ f sp, ((f = f_is_on_cycle ∧ sp = spOnC K CM) ∨ (f = f_next_form ∧ sp = spNext K CM CR) ∨ (f = f_lead_in ∧ sp = spLeadIn K CM CR) ∨ (f = f_cycle_of ∧ sp = spCyc K CM CR) ∨ (f = f_turns_of ∧ sp = spTrn K CM CR)) → HeldE P w K mg base 8 f sp := by
      rintro f sp (⟨rfl, rfl⟩ | ⟨rfl, rfl⟩ | ⟨rfl, rfl⟩ | ⟨rfl, rfl⟩ | ⟨rfl, rfl⟩)
      · exact h0
      · exact h1
      · exact h2
      · exact h3
      · exact h4
    refine ⟨_, (pss_one (ps_tryA rfl rfl sc__law_told.nd takes0 (fun W pn xe tk _ => (pss_one (ps_ret (pe_cal c__law_no_word (hr.mono (by decide)) rfl (pa_cons (pe_cal c__law_plain (hr.mono (by decide)) rfl (pa_cons (pe_callE AE tk (hr.mono (by decide)) (pe_ix (ix_listK (K := K) rfl) (pe_lst (pa_cons (pe_glob (v := .ref f_is_on_cycle) rfl m_is_on_cycle rfl) (pa_cons (pe_glob (v := .ref f_next_form) rfl m_next_form rfl) (pa_cons (pe_glob (v := .ref f_lead_in) rfl m_lead_in rfl) (pa_cons (pe_glob (v := .ref f_cycle_of) rfl m_cycle_of rfl) (pa_cons (pe_glob (v := .ref f_turns_of) rfl m_turns_of rfl) pa_nil)))))) (pv 0) (fun _ _ => rfl)) (pa_cons (pv 1) pa_nil)) pa_nil)) pa_nil))))) (HdA.bare ⟨rfl, by decide, .inl e_E.m.g⟩ (fun a oe cls d pn _ _ => (pss_one (ps_ret pe_str))) (HdA.named ⟨rfl, by decide, .inl R.g⟩ (i := 2) rfl rfl (fun a oe cls d pn hz hf => (pss_one (ps_ret (pe_xf R.xf R.n hz hf (pv 2))))) HdA.nil)))), ?_⟩
    walk_at "rd"
    rw [CB.rd_callE]
    walk_at "rd"
    refine ⟨by decide, fun p0 n0 => ?_⟩
    have s0 := same_upd (o := HO.lst [V.ref f_is_on_cycle, V.ref f_next_form, V.ref f_lead_in, V.ref f_cycle_of, V.ref f_turns_of]) n0
    have hl0 : upd H p0 (HO.lst [V.ref f_is_on_cycle, V.ref f_next_form, V.ref f_lead_in, V.ref f_cycle_of, V.ref f_turns_of]) p0 = some (HO.lst [V.ref f_is_on_cycle, V.ref f_next_form, V.ref f_lead_in, V.ref f_cycle_of, V.ref f_turns_of]) := upd_same
    generalize upd H p0 (HO.lst [V.ref f_is_on_cycle, V.ref f_next_form, V.ref f_lead_in, V.ref f_cycle_of, V.ref f_turns_of]) = H0 at *
    rcases h with ⟨w0, w4, nf, q⟩ | ⟨g, hI, h⟩
    · have nf' := (nf.kp (.of s0)).notI (K := K)
      have c : wh = 0 ∨ wh = 1 ∨ wh = 2 ∨ wh = 3 ∨ wh = 4 := by omega
      rcases c with rfl | rfl | rfl | rfl | rfl
      · exact ⟨_, SqL.of hl0, _, rfl, _, rfl, _, .inl ⟨rfl, rfl⟩, v, rfl, .inl ⟨nf', fun H' sm => ⟨true, e_E.m.mm, fun _ a na => q H' (s0.trans sm), fun z => by cases z⟩⟩⟩
      · exact ⟨_, SqL.of hl0, _, rfl, _, rfl, _, .inr (.inl ⟨rfl, rfl⟩), v, rfl, .inl ⟨nf', fun H' sm => ⟨true, e_E.m.mm, fun _ a na => q H' (s0.trans sm), fun z => by cases z⟩⟩⟩
      · exact ⟨_, SqL.of hl0, _, rfl, _, rfl, _, .inr (.inr (.inl ⟨rfl, rfl⟩)), v, rfl, .inl ⟨nf', fun H' sm => ⟨true, e_E.m.mm, fun _ a na => q H' (s0.trans sm), fun z => by cases z⟩⟩⟩
      · exact ⟨_, SqL.of hl0, _, rfl, _, rfl, _, .inr (.inr (.inr (.inl ⟨rfl, rfl⟩))), v, rfl, .inl ⟨nf', fun H' sm => ⟨true, e_E.m.mm, fun _ a na => q H' (s0.trans sm), fun z => by cases z⟩⟩⟩
      · exact ⟨_, SqL.of hl0, _, rfl, _, rfl, _, .inr (.inr (.inr (.inr ⟨rfl, rfl⟩))), v, rfl, .inl ⟨nf', fun H' sm => ⟨true, e_E.m.mm, fun _ a na => q H' (s0.trans sm), fun z => by cases z⟩⟩⟩
    have hI0 := hI.same s0
    rcases h with ⟨rfl, h⟩ | ⟨rfl, h⟩ | ⟨hw, h⟩
    · refine ⟨_, SqL.of hl0, _, rfl, _, rfl, _, .inr (.inl ⟨rfl, rfl⟩), v, rfl, .inr ⟨g, hI0, ?_⟩⟩
      rcases h with ⟨hl, q⟩ | ⟨hl, q⟩
      · exact .inl ⟨hl, fun d H' sm nd hx => ⟨false, R.rm, fun z => (by cases z), fun _ => ⟨true, R.rr, fun _ a na => ⟨_, rfl, rfl, rfl, d, _, _, rfl, hx, rfl, q H' (s0.trans sm)⟩, fun z => by cases z⟩⟩⟩
      · refine .inr ⟨hl, fun q1 H1 s1 n1 hq => ?_⟩
        obtain ⟨gg, e0, e1⟩ := hq
        exact ⟨q1, [.ref gg, .int (tnF g)], [.T (nxF g), .I (tnF g)], rfl, SqT.of e0, ⟨e1, rfl, trivial⟩, by show 2 ≤ 10000000; decide, fun p ys H2 s2 n2 hp hys => ⟨_, "tuple", rfl, .base (.tup hp), by decide, by decide, q p ys H2 ((s0.trans s1).trans s2) hp hys⟩⟩
    · refine ⟨_, SqL.of hl0, _, rfl, _, rfl, _, .inr (.inr (.inl ⟨rfl, rfl⟩)), v, rfl, .inr ⟨g, hI0, fun n hF => ?_⟩⟩
      rcases h n hF with ⟨hl, q⟩ | ⟨hl, q⟩
      · exact .inl ⟨hl, fun d H' sm nd hx => ⟨false, R.rm, fun z => (by cases z), fun _ => ⟨true, R.rr, fun _ a na => ⟨_, rfl, rfl, rfl, d, _, _, rfl, hx, rfl, q H' (s0.trans sm)⟩, fun z => by cases z⟩⟩⟩
      · refine .inr ⟨hl, fun q1 H1 s1 n1 hq => ?_⟩
        obtain ⟨x, y, e0, e1, e2⟩ := hq
        exact ⟨q1, [x, y], [.T (it (rtF g) g n), .M (mt (rtF g) g n)], rfl, SqT.of e0, ⟨e1, e2, trivial⟩, by show 2 ≤ 10000000; decide, fun p ys H2 s2 n2 hp hys => ⟨_, "tuple", rfl, .base (.tup hp), by decide, by decide, q p ys H2 ((s0.trans s1).trans s2) hp hys⟩⟩
    · rcases hw with rfl | rfl
      · refine ⟨_, SqL.of hl0, _, rfl, _, rfl, _, .inr (.inr (.inr (.inl ⟨rfl, rfl⟩))), v, rfl, .inr ⟨g, hI0, ?_⟩⟩
        rcases h with ⟨hl, q⟩ | ⟨hl, nf, q⟩
        · exact .inl ⟨hl, fun d H' sm nd hx => ⟨false, R.rm, fun z => (by cases z), fun _ => ⟨true, R.rr, fun _ a na => ⟨_, rfl, rfl, rfl, d, _, _, rfl, hx, rfl, q H' (s0.trans sm)⟩, fun z => by cases z⟩⟩⟩
        · exact .inr ⟨hl, .inl ⟨nf, fun d H' sm nd hx => ⟨false, R.rm, fun z => (by cases z), fun _ => ⟨true, R.rr, fun _ a na => ⟨_, rfl, rfl, rfl, d, _, _, rfl, hx, rfl, q H' (s0.trans sm)⟩, fun z => by cases z⟩⟩⟩⟩
      · refine ⟨_, SqL.of hl0, _, rfl, _, rfl, _, .inr (.inr (.inr (.inr ⟨rfl, rfl⟩))), v, rfl, .inr ⟨g, hI0, ?_⟩⟩
        rcases h with ⟨hl, q⟩ | ⟨hl, nf, q⟩
        · exact .inl ⟨hl, fun d H' sm nd hx => ⟨false, R.rm, fun z => (by cases z), fun _ => ⟨true, R.rr, fun _ a na => ⟨_, rfl, rfl, rfl, d, _, _, rfl, hx, rfl, q H' (s0.trans sm)⟩, fun z => by cases z⟩⟩⟩
        · exact .inr ⟨hl, .inl ⟨nf, fun d H' sm nd hx => ⟨false, R.rm, fun z => (by cases z), fun _ => ⟨true, R.rr, fun _ a na => ⟨_, rfl, rfl, rfl, d, _, _, rfl, hx, rfl, q H' (s0.trans sm)⟩, fun z => by cases z⟩⟩⟩⟩
end

section
variable {P : Program} {w : World} {K : PySem.W.Frag} {mg : Str → Option Value} {base : Heap} {CM CR aU a1 a2 : Addr}
theorem formB_mk {f : T3} (h1 : (f.1.natAbs : Int) < B60) (h2 : (f.2.1.natAbs : Int) < B60) (h3 : (f.2.2.natAbs : Int) < B60) (hd : discB (dsc f.1 f.2.1 f.2.2) = true) (h0 : 0 < dsc f.1 f.2.1 f.2.2) : formB f.1 f.2.1 f.2.2 = true := by
  have l : lgB f.1 f.2.1 f.2.2 = false := by
    unfold lgB
    simp only [List.map_cons, List.map_nil, List.any_cons, List.any_nil, id, Bool.or_eq_false_iff, decide_eq_false_iff_not]
    exact ⟨by omega, by omega, by omega, trivial⟩
  unfold formB
  rw [l, hd, decide_eq_true (.inl h0)]
  rfl
theorem IsIn.disc {H : Hp} {v : V} {f : T3} (h : IsIn H v f) : discB (dsc f.1 f.2.1 f.2.2) = true := by
  obtain ⟨p, e, hp, hf, hd⟩ := h
  unfold formB at hf
  simp only [Bool.and_eq_true] at hf
  exact hf.2.1
theorem dsc_it {H : Hp} {v : V} {f : T3} (h : IsIn H v f) (i : Nat) : dsc (it (rtF f) f i).1 (it (rtF f) f i).2.1 (it (rtF f) f i).2.2 = dsc f.1 f.2.1 f.2.2 := (it_frm h.good.1.1 i).1
theorem rt_it {H : Hp} {v : V} {f : T3} (h : IsIn H v f) (i : Nat) : rtF (it (rtF f) f i) = rtF f := by
  show isq (dsc _ _ _) = isq (dsc _ _ _)
  rw [dsc_it h i]
/-- small discriminants stay small -/
theorem it_small {H : Hp} {v : V} {f : T3} (h : IsIn H v f) (hD : dsc f.1 f.2.1 f.2.2 < B60) (i : Nat) : ((it (rtF f) f i).1.natAbs : Int) < B60 ∧ ((it (rtF f) f i).2.1.natAbs : Int) < B60 ∧ ((it (rtF f) f i).2.2.natAbs : Int) < B60 := by
  have g := h.good
  obtain ⟨p, e, hp, hf, hd⟩ := h
  obtain ⟨b1, b2, b3⟩ := lgB_no (form_lg hf)
  have b := it_bd (s := rtF f) (m := B60 - 1) g.1.1 (by omega) ⟨by omega, by omega, by omega⟩ i
  exact ⟨by omega, by omega, by omega⟩
theorem it_form {H : Hp} {v : V} {f : T3} (h : IsIn H v f) (hD : dsc f.1 f.2.1 f.2.2 < B60) (i : Nat) : formB (it (rtF f) f i).1 (it (rtF f) f i).2.1 (it (rtF f) f i).2.2 = true ∧ 0 < dsc (it (rtF f) f i).1 (it (rtF f) f i).2.1 (it (rtF f) f i).2.2 := by
  obtain ⟨b1, b2, b3⟩ := it_small h hD i
  have e := dsc_it h i
  have d := h.disc
  have h0 : 0 < dsc f.1 f.2.1 f.2.2 := h.choose_spec.2.2.2
  exact ⟨formB_mk b1 b2 b3 (by rw [e]; exact d) (by rw [e]; exact h0), by rw [e]; exact h0⟩
theorem it_in {H H' : Hp} {v x : V} {f : T3} (h : IsIn H v f) (hD : dsc f.1 f.2.1 f.2.2 < B60) {i : Nat} (hx : AtT H' x (it (rtF f) f i)) : IsIn H' x (it (rtF f) f i) := by
  obtain ⟨p, rfl, hp⟩ := hx
  obtain ⟨a, b⟩ := it_form h hD i
  exact ⟨p, rfl, hp, a, b⟩
theorem it_lg {H : Hp} {v : V} {f : T3} (h : IsIn H v f) (hD : dsc f.1 f.2.1 f.2.2 < B60) (i : Nat) : lg3 (it (rtF f) f i) = false := form_lg (it_form h hD i).1
theorem nx_it {H : Hp} {v : V} {f : T3} (h : IsIn H v f) (i : Nat) : nxF (it (rtF f) f i) = it (rtF f) f (i + 1) := by
  show stp (rtF (it (rtF f) f i)) _ = stp (rtF f) _
  rw [rt_it h i]
theorem tn_it {H : Hp} {v : V} {f : T3} (h : IsIn H v f) (i : Nat) : tnF (it (rtF f) f i) = newT (rtF f) (it (rtF f) f i).2.1 (it (rtF f) f i).2.2 := by
  show newT (rtF (it (rtF f) f i)) _ _ = _
  rw [rt_it h i]
theorem atsN_two {H : Hp} {ys : List V} {i j : Itm} (h : AtsN H ys [i, j]) : ∃ a b, ys = [a, b] ∧ AtN H a i ∧ AtN H b j := by
  match ys, h with
  | [a, b], ⟨h1, h2, _⟩ => exact ⟨a, b, rfl, h1, h2⟩
  | [], h => exact h.elim
  | [_], h => exact h.2.elim
  | _ :: _ :: _ :: _, h => exact h.2.2.elim
abbrev s__law_walk_holds : Stmt := top 62
theorem sc__law_walk_holds : FnScope ["f", "s", "g", "turn", "due"] ["f", "s"] (defScope s__law_walk_holds) := ⟨rfl, rfl, rfl, by decide +kernel, rfl, by decide +kernel, by decide +kernel⟩

def spWH : Sp := fun vs H Q _ => ∃ (v : V) (f : T3), vs = [v, .int (rtF f)] ∧ IsIn H v f ∧ dsc f.1 f.2.1 f.2.2 < B60 ∧ ∀ H', Same H H' → Q (.bl true) H'
theorem cal_wh (D : Dn K mg "_law_walk_holds" s__law_walk_holds ["f", "s"]) (B : Bl mg) (c__law_on_cycle : Cal P w K mg base "_law_on_cycle" 1 ["f", "s"] spLOn) (c_is_on_cycle : CalX P w K mg base "is_on_cycle" 6 ["f"] (spOnC K CM)) (c__law_says : Cal P w K mg base "_law_says" 1 ["value", "due"] spSays)
    (c__law_next : Cal P w K mg base "_law_next" 1 ["f", "s"] spLNext) (c_next_form : CalX P w K mg base "next_form" 6 ["f"] (spNext K CM CR)) (c__law_plain : Cal P w K mg base "_law_plain" 5 ["value"] (spTup K)) (c_lead_in : CalX P w K mg base "lead_in" 6 ["f"] (spLeadIn K CM CR)) :
    Cal P w K mg base "_law_walk_holds" 7 ["f", "s"] spWH := by
  refine D.cal sc__law_walk_holds (fun vs H Q E h => ?_) (fun f cdv A outer s H vs Q E hr h => ?_)
  · obtain ⟨v, f, rfl, _⟩ := h
    rfl
  · obtain ⟨v, f, rfl, hI, hD, q⟩ := h
    have hg := hI.good
    have zD := hI.dsz
    obtain ⟨n, hn, hfit, hmin⟩ := hI.led
    refine ⟨_, (pss_cons (ps_set (i := 2) sc__law_walk_holds.nd rfl (Or.inl rfl) (pv 0))
  (pss_cons (ps_for PassesOwn.never rfl (pi_range1 rfl B.range (pa_cons pe_int pa_nil)) (pg_name (i := 3) sc__law_walk_holds.nd rfl (Or.inl rfl)) (pss_cons (ps_if (pt_not (pt_val (pe_cal c__law_says (hr.mono (by decide)) rfl (pa_cons (pe_calS c_is_on_cycle takes0 (hr.mono (by decide)) rfl (pa_cons (pv 2) pa_nil)) (pa_cons (pe_cal c__law_on_cycle (hr.mono (by decide)) rfl (pa_cons (pv 2) (pa_cons (pv 1) pa_nil))) pa_nil))))) (pss_one (ps_ret pe_bl)) pss_nil)
  (pss_cons (ps_set (i := 4) sc__law_walk_holds.nd rfl (Or.inl rfl) (pe_cal c__law_next (hr.mono (by decide)) rfl (pa_cons (pv 2) (pa_cons (pv 1) pa_nil))))
  (pss_cons (ps_if (pt_cmpR (op_neD hr.units) (pe_cal c__law_plain (hr.mono (by decide)) rfl (pa_cons (pe_calS c_next_form takes0 (hr.mono (by decide)) rfl (pa_cons (pv 2) pa_nil)) pa_nil)) (pv 4) (nomark _)) (pss_one (ps_ret pe_bl)) pss_nil)
  (pss_cons (ps_if (pt_val (pe_cal c__law_on_cycle (hr.mono (by decide)) rfl (pa_cons (pv 2) (pa_cons (pv 1) pa_nil)))) (pss_one (ps_ret (pe_and (pe_cmpR (op_eqD hr.units) (pe_ix ix_tup (pe_cal c__law_plain (hr.mono (by decide)) rfl (pa_cons (pe_calS c_lead_in takes0 (hr.mono (by decide)) rfl (pa_cons (pv 0) pa_nil)) pa_nil)) pe_int (fun _ _ => rfl)) (pv 2) (nomark _)) (pe_one (pe_cal c__law_on_cycle (hr.mono (by decide)) rfl (pa_cons (pe_ix ix_tup (pv 4) pe_int (fun _ _ => rfl)) (pa_cons (pv 1) pa_nil))))))) pss_nil)
  (pss_one (ps_set (i := 2) sc__law_walk_holds.nd rfl (Or.inl rfl) (pe_ix ix_tup (pv 4) pe_int (fun _ _ => rfl)))))))))
  (pss_one (ps_ret pe_bl)))), ?_⟩
    rw [CB.rd_seq]
    walk_at "rs"
    rw [CB.rd_seq]
    walk_at "rs"
    refine ⟨by decide, by decide, ForR.w (fun i σ H1 => i ≤ n ∧ ∃ x s3 s4, σ = [some v, some (.int (rtF f)), some x, s3, s4] ∧ Same H H1 ∧ AtT H1 x (it (rtF f) f i)) ⟨Nat.zero_le _, v, _, _, rfl, Same.refl H, by obtain ⟨p, rfl, hp, _⟩ := hI; exact ⟨p, rfl, hp⟩⟩ ?_ ?_⟩
    · rintro i σ H1 hi ⟨hin, x, s3, s4, rfl, sm, hx⟩ N hN
      have hi : i < 300 := hi
      have hXI := it_in hI hD hx
      have eD := dsc_it hI i
      obtain ⟨px, rfl, hpx⟩ := hx
      walk_at "rs"
      rw [CB.rd_seq]
      walk_at "rs"
      refine ⟨.ref px, rfl, .inr ⟨_, hXI, fun H2 s2 => ?_⟩⟩
      refine ⟨px, _, _, rfl, ⟨px, rfl, s2 _ _ hpx⟩, ?_⟩
      refine ⟨_, _, rfl, _, rfl, ?_⟩
      have e1 : (decide (fits (isq (dsc (it (rtF f) f i).1 (it (rtF f) f i).2.1 (it (rtF f) f i).2.2)) (it (rtF f) f i)) == decide (fits (rtF f) (it (rtF f) f i))) = true := by
        rw [eD]
        exact beq_self_eq_true _
      rw [e1, if_neg (by decide)]
      rw [CB.rd_seq]
      walk_at "rs"
      refine ⟨px, _, _, _, rfl, ⟨px, rfl, s2 _ _ hpx⟩, good_it hg.1 zD i, fun q1 H3 s3 n3 hq1 => ?_⟩
      show tSeq _ _ _ _ _
      rw [CB.rd_seq]
      walk_at "rs"
      have lgn : lg3 (nxF (it (rtF f) f i)) = false := by rw [nx_it hI i]; exact it_lg hI hD (i + 1)
      refine ⟨.ref px, rfl, .inr ⟨_, hXI.same (s2.trans s3), .inr ⟨lgn, fun q2 H4 s4 n4 hq2 => ?_⟩⟩⟩
      rw [nx_it hI i, tn_it hI i] at hq2
      obtain ⟨g1, a1, a2⟩ := hq1
      obtain ⟨g2, k1, k2⟩ := hq2
      refine ⟨q2, [.ref g2, .int (newT (rtF f) (it (rtF f) f i).2.1 (it (rtF f) f i).2.2)], [.T (it (rtF f) f (i + 1)), .I (newT (rtF f) (it (rtF f) f i).2.1 (it (rtF f) f i).2.2)], rfl, SqT.of k1, ⟨k2, rfl, trivial⟩, by show 2 ≤ 10000000; decide, fun p ys H5 s5 n5 hp hys => ?_⟩
      refine ⟨_, _, dp_Is hp hys, dp_Is (s5 _ _ (s4 _ _ a1)) (is := [.T (it (rtF f) f (i + 1)), .I (newT (rtF f) (it (rtF f) f i).2.1 (it (rtF f) f i).2.2)]) ⟨AtT.same (s4.trans s5) a2, rfl, trivial⟩, shaped_Is _, shaped_Is _, ?_⟩
      rw [eqv_Is]
      refine ⟨_, rfl, ?_⟩
      rw [if_neg (by decide)]
      rw [CB.rd_seq]
      walk_at "rs"
      have s25 : Same H1 H5 := ((s2.trans s3).trans s4).trans s5
      refine ⟨px, _, _, rfl, ⟨px, rfl, s25 _ _ hpx⟩, ?_⟩
      by_cases yf : fits (rtF f) (it (rtF f) f i)
      · rw [decide_eq_true yf]
        have he : i = n := by
          rcases Nat.lt_or_ge i n with z | z
          · exact absurd yf (hmin i z)
          · omega
        refine ⟨_, rfl, ?_⟩
        rw [if_pos rfl]
        refine ⟨v, rfl, .inr ⟨f, hI.same (sm.trans s25), fun n' hF' => ?_⟩⟩
        have hn' : n' = i := by
          obtain ⟨_, w1, w2⟩ := hF'
          rcases Nat.lt_trichotomy n' i with z | z | z
          · exact absurd w1 (hmin n' (by omega))
          · exact z
          · exact absurd yf (w2 i z)
        subst hn'
        refine .inr ⟨it_lg hI hD n', fun q6 H6 s6 n6 hq6 => ?_⟩
        obtain ⟨x6, y6, w0, w1, w2⟩ := hq6
        refine ⟨q6, [x6, y6], [.T (it (rtF f) f n'), .M (mt (rtF f) f n')], rfl, SqT.of w0, ⟨w1, w2, trivial⟩, by show 2 ≤ 10000000; decide, fun p7 ys7 H7 s7 n7 hp7 hys7 => ?_⟩
        obtain ⟨y0, y1, rfl, w8, w9⟩ := atsN_two hys7
        have s17 := (s25.trans s6).trans s7
        have ff : fits (rtF f) (it (rtF f) f (n' + 1)) := fits_stp (it_frm hg.1.1 n') yf
        refine ⟨p7, rfl, _, SqT.of hp7, y0, rfl, dT3 _, dT3 _, atT_dp w8, atT_dp ⟨px, rfl, s17 _ _ hpx⟩, shaped_one _, shaped_one _, ?_⟩
        rw [eqv_t3, decide_eq_true rfl]
        refine ⟨_, rfl, ?_⟩
        rw [if_pos rfl]
        have s47 := ((s4.trans s5).trans s6).trans s7
        refine ⟨_, SqT.of (s47 _ _ a1), _, rfl, g1, it (rtF f) f (n' + 1), _, rfl, AtT.same s47 a2, ?_⟩
        rw [decide_eq_true ff]
        exact q _ (sm.trans s17)
      · rw [decide_eq_false yf]
        have hne : i ≠ n := fun e => yf (by rw [e]; exact hfit)
        refine ⟨_, rfl, ?_⟩
        rw [if_neg (by decide)]
        refine ⟨_, SqT.of (s5 _ _ (s4 _ _ a1)), _, rfl, ?_⟩
        exact hN _ _ ⟨by omega, _, _, _, rfl, sm.trans s25, AtT.same (s4.trans s5) a2⟩
    · rintro σ H1 ⟨hin, _⟩
      have hin : 300 ≤ n := hin
      omega
end

section
variable {P : Program} {w : World} {K : PySem.W.Frag} {mg : Str → Option Value} {base : Heap} {CM CR aU a1 a2 : Addr}
theorem first_uniq {f : T3} {n m : Nat} (h : First f n) (h' : First f m) : m = n := by
  obtain ⟨_, a, b⟩ := h
  obtain ⟨_, a', b'⟩ := h'
  rcases Nat.lt_trichotomy m n with z | z | z
  · exact absurd a' (b m z)
  · exact z
  · exact absurd a (b' n z)
theorem lg_max {x : T3} {m : Int} (hm : m ∈ [(x.1.natAbs : Int), (x.2.1.natAbs : Int), (x.2.2.natAbs : Int)]) (hmax : ∀ y, y ∈ [(x.1.natAbs : Int), (x.2.1.natAbs : Int), (x.2.2.natAbs : Int)] → y ≤ m) : (B60 ≤ m ∧ lg3 x = true) ∨ (m < B60 ∧ lg3 x = false) := by
  cases hl : lg3 x with
  | false =>
    obtain ⟨b1, b2, b3⟩ := lgB_no hl
    simp only [List.mem_cons, List.not_mem_nil, or_false] at hm
    right
    exact ⟨by omega, rfl⟩
  | true =>
    have m1 := hmax _ (by simp : (x.1.natAbs : Int) ∈ _)
    have m2 := hmax _ (by simp : (x.2.1.natAbs : Int) ∈ _)
    have m3 := hmax _ (by simp : (x.2.2.natAbs : Int) ∈ _)
    unfold lg3 lgB at hl
    simp only [List.map_cons, List.map_nil, List.any_cons, List.any_nil, id, Bool.or_eq_true, decide_eq_true_eq, Bool.false_eq_true, or_false] at hl
    left
    exact ⟨by omega, rfl⟩
theorem dsc_mod (a b c : Int) : dsc a b c % 4 = 0 ∨ dsc a b c % 4 = 1 := by
  unfold dsc
  have e : 4 * a * c = 4 * (a * c) := Int.mul_assoc _ _ _
  rw [e]
  rcases Int.emod_two_eq b with h | h
  · obtain ⟨j, rfl⟩ : ∃ j, b = 2 * j := ⟨b / 2, by omega⟩
    have e2 : 2 * j * (2 * j) = 4 * (j * j) := by grind
    omega
  · obtain ⟨j, rfl⟩ : ∃ j, b = 2 * j + 1 := ⟨b / 2, by omega⟩
    have e2 : (2 * j + 1) * (2 * j + 1) = 4 * (j * j + j) + 1 := by grind
    omega
theorem disc_of {a b c : Int} (h : isq (dsc a b c) * isq (dsc a b c) ≠ dsc a b c) : discB (dsc a b c) = true := by
  unfold discB sqB
  rw [decide_eq_true (dsc_mod a b c), decide_eq_false (fun z => h z.2)]
  rfl
abbrev s__law_great_holds : Stmt := top 63
theorem sc__law_great_holds : FnScope ["state", "a", "c", "b", "f", "d", "s", "due", "led", "item"] ["state"] (defScope s__law_great_holds) := ⟨rfl, rfl, rfl, by decide +kernel, rfl, by decide +kernel, by decide +kernel⟩

def spGH : Sp := fun vs H Q _ => ∃ (st : Addr) (x y : Int), vs = [.ref st] ∧ H st = some (.lst [.int x, .int y]) ∧ ∀ x' y' H', But st H H' → H' st = some (.lst [.int x', .int y']) → Q (.bl true) H'
/-- what is due: a word, or a pair -/
def Due (K : PySem.W.Frag) (H : Hp) (v : V) (t : T3) (is : List Itm) : Prop := (lg3 t = true ∧ v = .str "large") ∨ (lg3 t = false ∧ ∃ q xs, v = .ref q ∧ H q = some (.tup xs) ∧ AtsN H xs is)
theorem Due.same {H H' : Hp} {v : V} {t : T3} {is : List Itm} (s : Same H H') (h : Due K H v t is) : Due K H' v t is := by
  rcases h with h | ⟨hl, q, xs, e, h1, h2⟩
  · exact .inl h
  · exact .inr ⟨hl, q, xs, e, s _ _ h1, atsN_same s h2⟩
theorem due_eqL {H : Hp} {v : V} {t : T3} {is : List Itm} {Q : VK} (h : Due K H v t is) (hl : lg3 t = true) (q : Q (.bl true) H) : rEqD K (.str "large") v H Q := by
  rcases h with ⟨_, rfl⟩ | ⟨hl', _⟩
  · exact ⟨.str "large", .str "large", .str _, .str _, by decide +kernel, by decide +kernel, by rw [show PyData.eqv (.str "large") (.str "large") = true by decide +kernel]; exact q⟩
  · rw [hl] at hl'
    cases hl'
theorem due_eqT {H : Hp} {v : V} {t : T3} {is : List Itm} {p : Addr} {ys : List V} {Q : VK} (h : Due K H v t is) (hl : lg3 t = false) (hp : H p = some (.tup ys)) (hys : AtsN H ys is) (q : Q (.bl true) H) : rEqD K (.ref p) v H Q := by
  rcases h with ⟨hl', _⟩ | ⟨_, q1, xs, rfl, h1, h2⟩
  · rw [hl] at hl'
    cases hl'
  · exact ⟨_, _, dp_Is hp hys, dp_Is h1 h2, shaped_Is _, shaped_Is _, by rw [eqv_Is]; exact q⟩
theorem cal_gh (D : Dn K mg "_law_great_holds" s__law_great_holds ["state"]) (B : Bl mg) (c__law_take : Cal P w K mg base "_law_take" 1 ["state", "m"] spTake) (c__law_disc : Cal P w K mg base "_law_disc" 1 ["f"] spLDisc) (c__law_root : Cal P w K mg base "_law_root" 1 ["n"] spLawRoot)
    (c__law_led : Cal P w K mg base "_law_led" 2 ["f", "s"] spLLed) (c__law_next : Cal P w K mg base "_law_next" 1 ["f", "s"] spLNext) (c__law_on_cycle : Cal P w K mg base "_law_on_cycle" 1 ["f", "s"] spLOn) (c_is_on_cycle : CalX P w K mg base "is_on_cycle" 6 ["f"] (spOnC K CM))
    (c__law_says : Cal P w K mg base "_law_says" 1 ["value", "due"] spSays) (c__law_told : Cal P w K mg base "_law_told" 9 ["which", "f"] (spTold K)) : Cal P w K mg base "_law_great_holds" 10 ["state"] spGH := by
  refine D.cal sc__law_great_holds (fun vs H Q E h => ?_) (fun f cdv A outer s H vs Q E hr h => ?_)
  · obtain ⟨st, x, y, rfl, _⟩ := h
    rfl
  · obtain ⟨st, x, y, rfl, hst, q⟩ := h
    have e60 : (10 : Int) ^ Int.toNat 60 = B60 := by decide +kernel
    have e20 : (10 : Int) ^ Int.toNat 20 = 100000000000000000000 := by decide +kernel
    refine ⟨_, (pss_cons (ps_par (i := 1) (j := 2) rfl sc__law_great_holds.nd rfl rfl (by decide) rfl rfl (pa_cons (pe_op op_add pe_int (pe_cal c__law_take (hr.mono (by decide)) rfl (pa_cons (pv 0) (pa_cons (pe_op op_sub (pe_op op_powI pe_int pe_int) pe_int) pa_nil)))) (pa_cons (pe_ix ix_list (pe_lst (pa_cons pe_int (pa_cons pe_int (pa_cons (pe_op op_powI pe_int pe_int) pa_nil)))) (pe_cal c__law_take (hr.mono (by decide)) rfl (pa_cons (pv 0) (pa_cons pe_int pa_nil))) (fun _ _ => rfl)) pa_nil)) (by rfl))
  (pss_cons (ps_par (i := 3) (j := 2) rfl sc__law_great_holds.nd rfl rfl (by decide) rfl rfl (pa_cons (pe_op op_add (pe_op op_sub (pe_cal c__law_take (hr.mono (by decide)) rfl (pa_cons (pv 0) (pa_cons (pe_op op_sub (pe_op op_mulI pe_int (pe_op op_powI pe_int pe_int)) pe_int) pa_nil))) (pe_op op_powI pe_int pe_int)) pe_int) (pa_cons (pe_op op_sub (pe_un un_neg pe_int) (pe_cal c__law_take (hr.mono (by decide)) rfl (pa_cons (pv 0) (pa_cons (pv 2) pa_nil)))) pa_nil)) (by rfl))
  (pss_cons (ps_set (i := 4) sc__law_great_holds.nd rfl (Or.inl rfl) (pe_ix ix_list (pe_lst (pa_cons (pe_tup (pa_cons (pv 1) (pa_cons (pv 3) (pa_cons (pv 2) pa_nil)))) (pa_cons (pe_tup (pa_cons (pv 2) (pa_cons (pv 3) (pa_cons (pv 1) pa_nil)))) (pa_cons (pe_tup (pa_cons (pe_un un_neg (pv 1)) (pa_cons (pv 3) (pa_cons (pe_un un_neg (pv 2)) pa_nil)))) pa_nil)))) (pe_cal c__law_take (hr.mono (by decide)) rfl (pa_cons (pv 0) (pa_cons pe_int pa_nil))) (fun _ _ => rfl)))
  (pss_cons (ps_set (i := 5) sc__law_great_holds.nd rfl (Or.inl rfl) (pe_cal c__law_disc (hr.mono (by decide)) rfl (pa_cons (pv 4) pa_nil)))
  (pss_cons (ps_set (i := 6) sc__law_great_holds.nd rfl (Or.inl rfl) (pe_cal c__law_root (hr.mono (by decide)) rfl (pa_cons (pv 5) pa_nil)))
  (pss_cons (ps_if (pt_cmpR op_eq (pe_op op_mulI (pv 6) (pv 6)) (pv 5) (nomark _)) (pss_one (ps_ret pe_bl)) pss_nil)
  (pss_cons (ps_par (i := 7) (j := 8) rfl sc__law_great_holds.nd rfl rfl (by decide) rfl rfl (pa_cons (pe_cal c__law_next (hr.mono (by decide)) rfl (pa_cons (pv 4) (pa_cons (pv 6) pa_nil))) (pa_cons (pe_cal c__law_led (hr.mono (by decide)) rfl (pa_cons (pv 4) (pa_cons (pv 6) pa_nil))) pa_nil)) (by rfl))
  (pss_cons (ps_if (pt_cmpR op_ge (pe_callB (cr_max rfl) rfl B.max (by decide +kernel) (pa_cons (pe_lc (own := [("item", 9)]) rfl sc__law_great_holds.nd (pi_tup (pe_ix ix_tup (pv 7) pe_int (fun _ _ => rfl))) (blkOk_by (N := ["state", "a", "c", "b", "f", "d", "s", "due", "led", "item"]) (sc := defScope s__law_great_holds) (own := [("item", 9)]) (by decide +kernel)) (fun _ _ _ _ _ => (pg_name (i := 9) sc__law_great_holds.nd rfl (Or.inl rfl))) (fun _ _ _ _ _ => pts_nil) (fun _ _ _ _ _ => (pe_callB call_abs rfl B.abs (by decide +kernel) (pa_cons (pv 9) pa_nil)))) pa_nil)) (pe_op op_powI pe_int pe_int) (nomark _)) (pss_one (ps_set (i := 7) sc__law_great_holds.nd rfl (Or.inl rfl) pe_str)) pss_nil)
  (pss_cons (ps_if (pt_cmpR op_ge (pe_callB (cr_max rfl) rfl B.max (by decide +kernel) (pa_cons (pe_lc (own := [("item", 9)]) rfl sc__law_great_holds.nd (pi_tup (pe_ix ix_tup (pv 8) pe_int (fun _ _ => rfl))) (blkOk_by (N := ["state", "a", "c", "b", "f", "d", "s", "due", "led", "item"]) (sc := defScope s__law_great_holds) (own := [("item", 9)]) (by decide +kernel)) (fun _ _ _ _ _ => (pg_name (i := 9) sc__law_great_holds.nd rfl (Or.inl rfl))) (fun _ _ _ _ _ => pts_nil) (fun _ _ _ _ _ => (pe_callB call_abs rfl B.abs (by decide +kernel) (pa_cons (pv 9) pa_nil)))) pa_nil)) (pe_op op_powI pe_int pe_int) (nomark _)) (pss_one (ps_set (i := 8) sc__law_great_holds.nd rfl (Or.inl rfl) pe_str)) pss_nil)
  (pss_one (ps_ret (pe_and (pe_cmpR (op_eqD hr.units) (pe_cal c__law_told (hr.mono (by decide)) rfl (pa_cons pe_int (pa_cons (pv 4) pa_nil))) (pv 7) (nomark _)) (pe_and (pe_cmpR (op_eqD hr.units) (pe_cal c__law_told (hr.mono (by decide)) rfl (pa_cons pe_int (pa_cons (pv 4) pa_nil))) (pv 8) (nomark _)) (pe_one (pe_cal c__law_says (hr.mono (by decide)) rfl (pa_cons (pe_calS c_is_on_cycle takes0 (hr.mono (by decide)) rfl (pa_cons (pv 4) pa_nil)) (pa_cons (pe_cal c__law_on_cycle (hr.mono (by decide)) rfl (pa_cons (pv 4) (pa_cons (pv 6) pa_nil))) pa_nil))))))))))))))))), ?_⟩
    rw [CB.rd_seq]
    walk_at "rs"
    have pw : CPowI 10 60 := powI (n := 4) (by decide) (by decide) (by decide) (by decide)
    have pw2 : CPowI 10 20 := powI (n := 4) (by decide) (by decide) (by decide) (by decide)
    refine ⟨pw, st, x, y, _, rfl, hst, by decide +kernel, by decide +kernel, fun a0 x1 y1 a00 a01 => ⟨a0, rfl, pw2, by decide, fun p np => ?_⟩⟩
    have bt1 : But st H (upd H st (.lst [.int x1, .int y1])) := But.refl.upd
    have h1 : (upd H st (.lst [.int x1, .int y1])) st = some (.lst [.int x1, .int y1]) := upd_same
    generalize (upd H st (.lst [.int x1, .int y1])) = H1 at *
    have sp : p ≠ st := (ne_of_none h1 np).symm
    refine ⟨st, x1, y1, 3, rfl, same_upd np _ _ h1, by decide, by decide +kernel, fun e x2 y2 e0 e1 => ?_⟩
    have pick : ∃ c, atI [V.int 1, V.int 9, V.int (10 ^ Int.toNat 20)] e = some (.int c) ∧ 1 ≤ c ∧ c ≤ 100000000000000000000 := by
      have c : e = 0 ∨ e = 1 ∨ e = 2 := by omega
      rcases c with rfl | rfl | rfl <;> exact ⟨_, rfl, by decide +kernel, by decide +kernel⟩
    obtain ⟨c0, ec, c1, c2⟩ := pick
    refine ⟨_, e, rfl, SqL.of (by rw [upd_ne sp]; exact upd_same), _, ec, ?_⟩
    have bt2 := ((bt1.same (same_upd (o := .lst [V.int 1, V.int 9, V.int (10 ^ Int.toNat 20)]) np)).upd (o := .lst [.int x2, .int y2]))
    have h2 : (upd (upd H1 p (.lst [V.int 1, V.int 9, V.int (10 ^ Int.toNat 20)])) st (.lst [.int x2, .int y2])) st = some (.lst [.int x2, .int y2]) := upd_same
    generalize (upd (upd H1 p (.lst [V.int 1, V.int 9, V.int (10 ^ Int.toNat 20)])) st (.lst [.int x2, .int y2])) = H2 at *
    rw [e60] at a01
    rw [CB.rd_seq]
    walk_at "rs"
    refine ⟨pw, mulL (by decide), st, x2, y2, _, rfl, h2, by decide +kernel, by decide +kernel, fun b0 x3 y3 b00 b01 => ⟨pw, b0, rfl, st, x3, y3, c0, rfl, upd_same, by omega, Nat.lt_of_le_of_lt (log_lt (k := 79) (by show c0.natAbs < 2 ^ 80; omega)) (by decide), fun c3 x4 y4 c30 c31 => ⟨c3, rfl, ?_⟩⟩⟩
    have bt4 := (bt2.upd (o := .lst [.int x3, .int y3])).upd (o := .lst [.int x4, .int y4])
    have h4 : (upd (upd H2 st (.lst [.int x3, .int y3])) st (.lst [.int x4, .int y4])) st = some (.lst [.int x4, .int y4]) := upd_same
    generalize (upd (upd H2 st (.lst [.int x3, .int y3])) st (.lst [.int x4, .int y4])) = H4 at *
    rw [e60] at b01 ⊢
    have B0 : B60 = 1000000000000000000000000000000000000000000000000000000000000 := by decide +kernel
    have za : 1 ≤ 1 + a0 ∧ 1 + a0 < B60 := by omega
    have zb : ((b0 - B60 + 1).natAbs : Int) < B60 := by omega
    have zc : -1 - c3 ≤ -1 ∧ -B60 < -1 - c3 := by omega
    generalize 1 + a0 = a at *
    generalize b0 - B60 + 1 = b at *
    generalize -1 - c3 = c at *
    show tSeq _ _ _ _ _
    rw [CB.rd_seq]
    walk_at "rs"
    refine ⟨by decide, fun p1 n1 => ?_⟩
    have s1 := same_upd (o := HO.tup [V.int a, V.int b, V.int c]) n1
    have t1 : upd H4 p1 (HO.tup [V.int a, V.int b, V.int c]) p1 = some (.tup [V.int a, V.int b, V.int c]) := upd_same
    generalize upd H4 p1 (HO.tup [V.int a, V.int b, V.int c]) = G1 at *
    refine ⟨by decide, fun p2 n2 => ?_⟩
    have s2 := same_upd (o := HO.tup [V.int c, V.int b, V.int a]) n2
    have t2 : upd G1 p2 (HO.tup [V.int c, V.int b, V.int a]) p2 = some (.tup [V.int c, V.int b, V.int a]) := upd_same
    generalize upd G1 p2 (HO.tup [V.int c, V.int b, V.int a]) = G2 at *
    refine ⟨by decide, fun p3 n3 => ?_⟩
    have s3 := same_upd (o := HO.tup [V.int (-a), V.int b, V.int (-c)]) n3
    have t3 : upd G2 p3 (HO.tup [V.int (-a), V.int b, V.int (-c)]) p3 = some (.tup [V.int (-a), V.int b, V.int (-c)]) := upd_same
    generalize upd G2 p3 (HO.tup [V.int (-a), V.int b, V.int (-c)]) = G3 at *
    refine ⟨by decide, fun p4 n4 => ?_⟩
    have s4 := same_upd (o := HO.lst [V.ref p1, V.ref p2, V.ref p3]) n4
    have t4 : upd G3 p4 (HO.lst [V.ref p1, V.ref p2, V.ref p3]) p4 = some (.lst [V.ref p1, V.ref p2, V.ref p3]) := upd_same
    have k4 : p4 ≠ st := (ne_of_none (s3 _ _ (s2 _ _ (s1 _ _ h4))) n4).symm
    generalize upd G3 p4 (HO.lst [V.ref p1, V.ref p2, V.ref p3]) = G4 at *
    have hs4 := s4 _ _ (s3 _ _ (s2 _ _ (s1 _ _ h4)))
    refine ⟨st, x4, y4, 3, rfl, hs4, by decide, by decide +kernel, fun e x5 y5 e0 e1 => ?_⟩
    have hac : 0 < a * (-c) := Int.mul_pos (by omega) (by omega)
    rw [Int.mul_neg] at hac
    have hbb := sq_nn b
    have pick : ∃ (r : Addr) (f : T3), atI [V.ref p1, V.ref p2, V.ref p3] e = some (.ref r) ∧ G4 r = some (.tup [.int f.1, .int f.2.1, .int f.2.2]) ∧ (f.1.natAbs : Int) < B60 ∧ (f.2.1.natAbs : Int) < B60 ∧ (f.2.2.natAbs : Int) < B60 ∧ 0 < dsc f.1 f.2.1 f.2.2 := by
      have ce : e = 0 ∨ e = 1 ∨ e = 2 := by omega
      rcases ce with rfl | rfl | rfl
      · exact ⟨p1, (a, b, c), rfl, s4 _ _ (s3 _ _ (s2 _ _ t1)), by show (a.natAbs : Int) < B60; omega, zb, by show (c.natAbs : Int) < B60; omega, by show 0 < b * b - 4 * a * c; rw [Int.mul_assoc]; omega⟩
      · exact ⟨p2, (c, b, a), rfl, s4 _ _ (s3 _ _ t2), by show (c.natAbs : Int) < B60; omega, zb, by show (a.natAbs : Int) < B60; omega, by show 0 < b * b - 4 * c * a; rw [Int.mul_assoc, Int.mul_comm c a]; omega⟩
      · exact ⟨p3, (-a, b, -c), rfl, s4 _ _ t3, by show ((-a).natAbs : Int) < B60; omega, zb, by show ((-c).natAbs : Int) < B60; omega, by show 0 < b * b - 4 * -a * -c; rw [Int.mul_assoc, Int.neg_mul_neg]; omega⟩
    obtain ⟨r, f, er, hr0, f1, f2, f3, d0⟩ := pick
    refine ⟨_, e, rfl, SqL.of (by rw [upd_ne k4]; exact t4), _, er, ?_⟩
    have hr6 : (upd G4 st (.lst [.int x5, .int y5])) r = some (.tup [.int f.1, .int f.2.1, .int f.2.2]) := by
      rw [upd_ne (ne_of hr0 hs4 (by intro z; cases z))]
      exact hr0
    have bt6 := (bt4.same (((s1.trans s2).trans s3).trans s4)).upd (o := .lst [.int x5, .int y5])
    have h6 : (upd G4 st (.lst [.int x5, .int y5])) st = some (.lst [.int x5, .int y5]) := upd_same
    generalize (upd G4 st (.lst [.int x5, .int y5])) = H6 at *
    obtain ⟨m1, m2, d1, d2⟩ := dsc_bd f1 f2 f3
    rw [CB.rd_seq]
    walk_at "rs"
    refine ⟨r, f.1, f.2.1, f.2.2, rfl, hr6, m1, m2, ?_⟩
    show tSeq _ _ _ _ _
    rw [CB.rd_seq]
    walk_at "rs"
    refine ⟨_, rfl, Int.le_of_lt d0, d1, ?_⟩
    show tSeq _ _ _ _ _
    rw [CB.rd_seq]
    walk_at "rs"
    have z1 : Sz 200 f.1 := by unfold B60 at f1; unfold Sz; omega
    have z2 : Sz 200 f.2.1 := by unfold B60 at f2; unfold Sz; omega
    have z3 : Sz 200 f.2.2 := by unfold B60 at f3; unfold Sz; omega
    have zD : Sz 405 (dsc f.1 f.2.1 f.2.2) := (((z2.mul z2).le (by decide : 400 ≤ 403)).sub (((show Sz 3 4 by unfold Sz; decide).mul z1).mul z3)).le (by decide)
    have zs : Sz 405 (isq (dsc f.1 f.2.1 f.2.2)) := by
      have i1 := isq_le (n := dsc f.1 f.2.1 f.2.2) (by omega)
      have i0 := isq_nn (dsc f.1 f.2.1 f.2.2)
      generalize isq (dsc f.1 f.2.1 f.2.2) = s at *
      have : s ≤ dsc f.1 f.2.1 f.2.2 := by
        rcases Int.lt_or_le 0 s with z | z
        · have : s * 1 ≤ s * s := Int.mul_le_mul_of_nonneg_left (by omega) i0
          omega
        · omega
      unfold Sz at *
      omega
    refine ⟨zs.ok zs (by decide) (by decide), ite2 (fun _ => q x5 y5 H6 bt6 h6) (fun ns => ?_)⟩
    have hI : IsIn H6 (.ref r) f := ⟨r, rfl, hr6, formB_mk f1 f2 f3 (disc_of ns) d0, d0⟩
    have hg := hI.good
    rw [CB.rd_seq]
    walk_at "rs"
    refine ⟨r, f, _, _, rfl, ⟨r, rfl, hr6⟩, hg.1, fun q1 H7 s7 n7 hq1 => ?_⟩
    refine ⟨.ref r, f, rfl, hI.same s7, fun n q2 H8 hF s8 n8 hq2 => ?_⟩
    obtain ⟨g1, a1, a2⟩ := hq1
    obtain ⟨xg, xm, l1, l2, l3⟩ := hq2
    obtain ⟨g2, rfl, l2⟩ := l2
    have a1 := s8 _ _ a1
    have a2 := AtT.same s8 a2
    show tSeq _ _ _ _ _
    refine seq_cut (fun σ H9 => ∃ v7 s9, σ = [some (.ref st), some (.int a), some (.int c), some (.int b), some (.ref r), some (.int (dsc f.1 f.2.1 f.2.2)), some (.int (rtF f)), some v7, some (.ref q2), s9] ∧ Same H8 H9 ∧ Due K H9 v7 (nxF f) [.T (nxF f), .I (tnF f)]) (fun R hR => ?_) ?_
    · walk_at "rs"
      obtain ⟨_, eg, hgg⟩ := a2
      cases eg
      have hgg : H8 g1 = some (.tup [.int (nxF f).1, .int (nxF f).2.1, .int (nxF f).2.2]) := hgg
      refine ⟨_, SqT.of (a1), _, rfl, g1, rfl, ⟨_, SqT.of hgg⟩, LcT.w (xs := ([(nxF f).1, (nxF f).2.1, (nxF f).2.2] : List Int).map V.int) (fun i D zs H4 => zs = ((([(nxF f).1, (nxF f).2.1, (nxF f).2.2] : List Int).take i).map fun i : Int => (i.natAbs : Int)).map V.int ∧ Same H8 H4 ∧ H4 D = some (.lst zs) ∧ H8 D = none) (fun D nD => ⟨rfl, same_upd nD, upd_same, nD⟩) ?_ ?_ ?_⟩
      · rintro D i zs H4 _ ⟨_, sm, _, _⟩
        exact SqT.of (sm _ _ hgg)
      · rintro D i x zs H4 hv ⟨rfl, sm, hD, nD⟩ Nx hN
        rw [List.getElem?_map] at hv
        obtain ⟨n, hn, rfl⟩ := Option.map_eq_some_iff.mp hv
        have hi : i < 3 := (List.getElem?_eq_some_iff.mp hn).1
        walk_at "rs"
        refine ⟨_, hD, ?_, hN _ _ ⟨?_, same_at sm nD, upd_same, nD⟩⟩
        · rw [List.length_map, List.length_map, List.length_take]
          exact small_size (by omega)
        · rw [List.take_add_one, hn, List.map_append, List.map_append, iabs]
          rfl
      · rintro D zs H4 nD ⟨rfl, s4, hD, _⟩
        refine ⟨D, [((nxF f).1.natAbs : Int), ((nxF f).2.1.natAbs : Int), ((nxF f).2.2.natAbs : Int)], rfl, SqL.of hD, by show 0 < 3; decide, fun m hm hmax => ?_⟩
        refine ⟨pw, m, rfl, ?_⟩
        rw [e60]
        rcases lg_max hm hmax with ⟨c1, l⟩ | ⟨c1, l⟩
        · rw [if_pos c1]
          exact hR _ _ ⟨_, _, rfl, s4, .inl ⟨l, rfl⟩⟩
        · rw [if_neg (Int.not_le.mpr c1)]
          exact hR _ _ ⟨_, _, rfl, s4, .inr ⟨l, q1, [.ref g1, .int (tnF f)], rfl, s4 _ _ a1, ⟨g1, rfl, s4 _ _ hgg⟩, rfl, trivial⟩⟩
    rintro σ H9 ⟨v7, s9, rfl, s89, hd7⟩
    refine seq_cut (fun σ H10 => ∃ v8 s9, σ = [some (.ref st), some (.int a), some (.int c), some (.int b), some (.ref r), some (.int (dsc f.1 f.2.1 f.2.2)), some (.int (rtF f)), some v7, some v8, s9] ∧ Same H9 H10 ∧ Due K H10 v8 (it (rtF f) f n) [.T (it (rtF f) f n), .M (mt (rtF f) f n)]) (fun R hR => ?_) ?_
    · walk_at "rs"
      have hgg := s89 _ _ l2
      have l1 := s89 _ _ l1
      refine ⟨_, SqT.of (l1), _, rfl, g2, rfl, ⟨_, SqT.of hgg⟩, LcT.w (xs := ([(it (rtF f) f n).1, (it (rtF f) f n).2.1, (it (rtF f) f n).2.2] : List Int).map V.int) (fun i D zs H4 => zs = ((([(it (rtF f) f n).1, (it (rtF f) f n).2.1, (it (rtF f) f n).2.2] : List Int).take i).map fun i : Int => (i.natAbs : Int)).map V.int ∧ Same H9 H4 ∧ H4 D = some (.lst zs) ∧ H9 D = none) (fun D nD => ⟨rfl, same_upd nD, upd_same, nD⟩) ?_ ?_ ?_⟩
      · rintro D i zs H4 _ ⟨_, sm, _, _⟩
        exact SqT.of (sm _ _ hgg)
      · rintro D i x zs H4 hv ⟨rfl, sm, hD, nD⟩ Nx hN
        rw [List.getElem?_map] at hv
        obtain ⟨n, hn, rfl⟩ := Option.map_eq_some_iff.mp hv
        have hi : i < 3 := (List.getElem?_eq_some_iff.mp hn).1
        walk_at "rs"
        refine ⟨_, hD, ?_, hN _ _ ⟨?_, same_at sm nD, upd_same, nD⟩⟩
        · rw [List.length_map, List.length_map, List.length_take]
          exact small_size (by omega)
        · rw [List.take_add_one, hn, List.map_append, List.map_append, iabs]
          rfl
      · rintro D zs H4 nD ⟨rfl, s4, hD, _⟩
        refine ⟨D, [((it (rtF f) f n).1.natAbs : Int), ((it (rtF f) f n).2.1.natAbs : Int), ((it (rtF f) f n).2.2.natAbs : Int)], rfl, SqL.of hD, by show 0 < 3; decide, fun m hm hmax => ?_⟩
        refine ⟨pw, m, rfl, ?_⟩
        rw [e60]
        rcases lg_max hm hmax with ⟨c1, l⟩ | ⟨c1, l⟩
        · rw [if_pos c1]
          exact hR _ _ ⟨_, _, rfl, s4, .inl ⟨l, rfl⟩⟩
        · rw [if_neg (Int.not_le.mpr c1)]
          exact hR _ _ ⟨_, _, rfl, s4, .inr ⟨l, q2, [.ref g2, xm], rfl, s4 _ _ l1, ⟨g2, rfl, s4 _ _ hgg⟩, (l3.same s89).same s4, trivial⟩⟩
    rintro σ H10 ⟨v8, s9, rfl, s910, hd8⟩
    walk_at "rs"
    have sA := (s7.trans s8).trans (s89.trans s910)
    have hI10 := hI.same sA
    have done : ∀ H', Same H10 H' → spOnC K CM [V.ref r] H' (fun x H1 => spLOn [V.ref r, V.int (rtF f)] H1 (fun x_1 H1 => spSays [x, x_1] H1 Q E0) E0) (fun _ _ _ => False) := fun H' s' => by
      refine ⟨.ref r, rfl, .inr ⟨f, hI10.same s', fun H2 s2 => ?_⟩⟩
      have sB := (sA.trans s').trans s2
      refine ⟨r, f, _, rfl, ⟨r, rfl, sB _ _ hr6⟩, _, _, rfl, ?_⟩
      rw [beq_self_eq_true]
      exact q x5 y5 _ (bt6.same sB) (sB _ _ h6)
    have hd7 := hd7.same s910
    have two : ∀ H', Same H10 H' → spTold K [V.int 2, V.ref r] H' (fun x H1 => rEqD K x v8 H1 fun x H1 => ∃ c_2, x = V.bl c_2 ∧ if c_2 = true then spOnC K CM [V.ref r] H1 (fun x H1 => spLOn [V.ref r, V.int (rtF f)] H1 (fun x_1 H1 => spSays [x, x_1] H1 Q E0) E0) (fun _ _ _ => False) else Q (V.bl false) H1) E0 := fun H' s' => by
      refine ⟨st, 2, .ref r, rfl, .inr ⟨f, hI10.same s', .inr (.inl ⟨rfl, fun n' hF' => ?_⟩)⟩⟩
      have en := first_uniq hF hF'
      subst en
      cases hl : lg3 (it (rtF f) f n') with
      | true => exact .inl ⟨rfl, fun H2 s2 => due_eqL (hd8.same (s'.trans s2)) hl ⟨true, rfl, by rw [if_pos rfl]; exact done _ (s'.trans s2)⟩⟩
      | false => exact .inr ⟨rfl, fun p ys H2 s2 hp hys => due_eqT (hd8.same (s'.trans s2)) hl hp hys ⟨true, rfl, by rw [if_pos rfl]; exact done _ (s'.trans s2)⟩⟩
    refine ⟨st, 1, .ref r, rfl, .inr ⟨f, hI10, .inl ⟨rfl, ?_⟩⟩⟩
    cases hl : lg3 (nxF f) with
    | true => exact .inl ⟨rfl, fun H2 s2 => due_eqL (hd7.same s2) hl ⟨true, rfl, by rw [if_pos rfl]; exact two _ s2⟩⟩
    | false => exact .inr ⟨rfl, fun p ys H2 s2 hp hys => due_eqT (hd7.same s2) hl hp hys ⟨true, rfl, by rw [if_pos rfl]; exact two _ s2⟩⟩
end

section
variable {P : Program} {w : World} {K : PySem.W.Frag} {mg : Str → Option Value} {base : Heap} {CM CR aU a1 a2 : Addr}
theorem dsc_mov {a b c : Int} {m : M4} (h : detM m = 1) : dsc (movT a b c m).1 (movT a b c m).2.1 (movT a b c m).2.2 = dsc a b c := by
  obtain ⟨⟨p, q⟩, ⟨r, s⟩⟩ := m
  simp only [detM] at h
  simp only [movT, valF, midF, dsc]
  grind
theorem movT_mul {a b c : Int} {m n : M4} : movT (movT a b c m).1 (movT a b c m).2.1 (movT a b c m).2.2 n = movT a b c (mulM m n) := by
  obtain ⟨⟨p, q⟩, ⟨r, s⟩⟩ := m
  obtain ⟨⟨p', q'⟩, ⟨r', s'⟩⟩ := n
  simp only [movT, valF, midF, mulM, Prod.mk.injEq]
  refine ⟨?_, ?_, ?_⟩ <;> grind
theorem movT_mt {D s : Int} {f : T3} (h : Frm D s f) : ∀ n, movT f.1 f.2.1 f.2.2 (mt s f n) = it s f n
  | 0 => by
    obtain ⟨a, b, c⟩ := f
    show movT a b c ((1, 0), (0, 1)) = (a, b, c)
    simp only [movT, valF, midF, Prod.mk.injEq]
    refine ⟨?_, ?_, ?_⟩ <;> grind
  | n + 1 => by
    show movT _ _ _ (mulM (mt s f n) ((0, -1), (1, newT s (it s f n).2.1 (it s f n).2.2))) = stp s (it s f n)
    rw [← movT_mul, movT_mt h n]
    exact stp_mov (it_frm h n).c
theorem IsIn.lap {H : Hp} {v : V} {f : T3} (h : IsIn H v f) (hD : dsc f.1 f.2.1 f.2.2 ≤ 1000000) (hf : fits (rtF f) f) : ∃ k, Lap f k := by
  have g := h.good.1.1
  obtain ⟨k, h1, h2, h3, h4⟩ := closes g hf
  refine ⟨k, h1, ?_, h3, h4⟩
  obtain ⟨s0, s1, _⟩ := g.2
  have e : isq (dsc f.1 f.2.1 f.2.2) < 1000 := by
    rcases Int.lt_or_le (isq (dsc f.1 f.2.1 f.2.2)) 1000 with z | z
    · exact z
    · have := sq_mono (by decide : (0 : Int) ≤ 1000) z
      omega
  generalize isq (dsc f.1 f.2.1 f.2.2) = s at *
  have : (s + 1) * (4 * s + 1) ≤ 1000 * 3997 := Int.mul_le_mul (by omega) (by omega) (by omega) (by omega)
  omega
theorem lap_two {H : Hp} {v : V} {f : T3} {k : Nat} (h : IsIn H v f) (hf : fits (rtF f) f) (hl : Lap f k) : k % 2 = 0 ∧ 2 ≤ k := by
  have e := even_len h.good.1.1 hf hl.2.2.1
  have := hl.1
  omega
theorem lap_next {H : Hp} {v : V} {f : T3} {k : Nat} (h : IsIn H v f) (hf : fits (rtF f) f) (hl : Lap f k) : Lap (it (rtF f) f 1) k := by
  obtain ⟨h1, h2, h3, h4⟩ := hl
  have er := rt_it h 1
  refine ⟨h1, h2, ?_, fun j j0 jk e => ?_⟩
  · rw [er, it_add, show 1 + k = k + 1 by omega, ← it_add, h3]
  · rw [er, it_add] at e
    exact h4 j j0 jk (it_inj h.good.1.1 hf 1 j e.symm).symm
theorem Fl_rot {s : Int} {f : T3} {k : Nat} (hk : 0 < k) (e : it s f k = f) : (Fl s f k).drop 1 ++ (Fl s f k).take 1 = Fl s (it s f 1) k := by
  obtain ⟨j, rfl⟩ : ∃ j, k = j + 1 := ⟨k - 1, by omega⟩
  have a : Fl s f (j + 1) = Itm.T f :: (List.range j).map (fun i => Itm.T (it s f (1 + i))) := by
    unfold Fl
    rw [List.range_succ_eq_map, List.map_cons, List.map_map]
    congr 1
    refine List.map_congr_left fun i _ => ?_
    show Itm.T (it s f (i + 1)) = _
    rw [Nat.add_comm]
  have b : Fl s (it s f 1) (j + 1) = (List.range j).map (fun i => Itm.T (it s f (1 + i))) ++ [Itm.T f] := by
    rw [Fl_succ]
    unfold Fl
    rw [it_add, show 1 + j = j + 1 by omega, e]
    congr 1
    refine List.map_congr_left fun i _ => ?_
    rw [it_add]
  rw [a, b]
  rfl
theorem atsN_app {H : Hp} : ∀ {vs ws : List V} {is js : List Itm}, AtsN H vs is → AtsN H ws js → AtsN H (vs ++ ws) (is ++ js)
  | [], _, [], _, _, h => h
  | _ :: _, _, _ :: _, _, ⟨g, gs⟩, h => ⟨g, atsN_app gs h⟩
  | [], _, _ :: _, _, g, _ => g.elim
  | _ :: _, _, [], _, g, _ => g.elim
theorem atsN_drop {H : Hp} : ∀ {vs : List V} {is : List Itm} (n : Nat), AtsN H vs is → AtsN H (vs.drop n) (is.drop n)
  | _, _, 0, h => h
  | [], [], _ + 1, _ => trivial
  | _ :: _, _ :: _, n + 1, ⟨_, gs⟩ => atsN_drop n gs
  | [], _ :: _, _ + 1, g => g.elim
  | _ :: _, [], _ + 1, g => g.elim
theorem atsN_take {H : Hp} : ∀ {vs : List V} {is : List Itm} (n : Nat), AtsN H vs is → AtsN H (vs.take n) (is.take n)
  | _, _, 0, _ => by
    rw [List.take_zero, List.take_zero]
    trivial
  | [], [], _ + 1, _ => trivial
  | _ :: _, _ :: _, n + 1, ⟨g, gs⟩ => ⟨g, atsN_take n gs⟩
  | [], _ :: _, _ + 1, g => g.elim
  | _ :: _, [], _ + 1, g => g.elim
/-- the led form, its own lead -/
theorem first_zero {f : T3} (hf : fits (rtF f) f) : First f 0 := ⟨by omega, hf, fun j hj => by omega⟩
theorem it_first {H H' : Hp} {v x : V} {f : T3} {n : Nat} (h : IsIn H v f) (hF : First f n) (hD : dsc f.1 f.2.1 f.2.2 < B60) : fits (rtF (it (rtF f) f n)) (it (rtF f) f n) := by
  rw [rt_it h n]
  exact hF.2.1
def idM : M4 := ((1, 0), (0, 1))
/-- lists of one word -/
theorem dp_rep {H : Hp} {r : Addr} {x : Str} {n : Nat} (h : H r = some (.lst (List.replicate n (V.str x)))) : Dp K H (.ref r) (.list (List.replicate n (.str x))) := by
  refine .lst (SqL.of h) ?_
  clear h
  induction n with
  | zero => exact .nil
  | succ n ih => exact .cons (.str x) ih
/-- slices of a tuple -/
theorem cut1 {xs : List V} (h : 2 ≤ xs.length) : cutV xs (some 1) none = xs.drop 1 ∧ ¬ (HT.sIx xs.length 0 (some 1) = 0 ∧ HT.sIx xs.length xs.length none = xs.length) := by
  unfold cutV
  rw [HT.sIx_none, show HT.sIx xs.length 0 (some 1) = min 1 xs.length from HT.sIx_nat _ _ 1]
  rw [show min 1 xs.length = 1 by omega]
  exact ⟨by rw [List.take_of_length_le]; rw [List.length_drop]; exact Nat.le_refl _, by omega⟩
theorem cut2 {xs : List V} (h : 2 ≤ xs.length) : cutV xs none (some 1) = xs.take 1 ∧ ¬ (HT.sIx xs.length 0 none = 0 ∧ HT.sIx xs.length xs.length (some 1) = xs.length) := by
  unfold cutV
  rw [HT.sIx_none, show HT.sIx xs.length xs.length (some 1) = min 1 xs.length from HT.sIx_nat _ _ 1]
  rw [show min 1 xs.length = 1 by omega]
  exact ⟨by rw [List.drop_zero, Nat.sub_zero], by omega⟩
end

section
variable {P : Program} {w : World} {K : PySem.W.Frag} {mg : Str → Option Value} {base : Heap} {CM CR aU a1 a2 : Addr}
theorem rd_slT {x : V} {lo hi : Option Int} {H : Hp} {Q : VK} : rSlT K x lo hi H Q = ∃ a xs, x = .ref a ∧ SqT K H a xs ∧ ¬ (HT.sIx xs.length 0 lo = 0 ∧ HT.sIx xs.length xs.length hi = xs.length) ∧ ∀ p, H p = none → Q (.ref p) (upd H p (.tup (cutV xs lo hi))) := rfl
theorem rd_catT {x y : V} {H : Hp} {Q : VK} : rCatT K x y H Q = ∃ a b xs ys, x = .ref a ∧ y = .ref b ∧ SqT K H a xs ∧ SqT K H b ys ∧ xs ≠ [] ∧ xs.length + ys.length ≤ sizeLine ∧ (ys = [] → Q (.ref a) H) ∧ (ys ≠ [] → ∀ p, H p = none → Q (.ref p) (upd H p (.tup (xs ++ ys)))) := rfl
abbrev s_law : Stmt := top 64
theorem sc_law : FnScope ["script", "state", "f", "d", "s", "g", "m", "bad", "own", "turns", "which", "item"] ["script"] (defScope s_law) := ⟨rfl, rfl, rfl, by decide +kernel, rfl, by decide +kernel, by decide +kernel⟩

def spLaw (K : PySem.W.Frag) : Sp := fun vs H Q _ => ∃ (a : Addr) (ns : List Int), vs = [.ref a] ∧ SqL K H a (ns.map V.int) ∧ ns.length ≤ 63 ∧ ∀ H', Q (.bl true) H'
theorem ok_law {f : Addr} {fd : FuncData} (F : Fun K "law" "law" s_law f fd) (B : Bl mg) (c__law_state : Cal P w K mg base "_law_state" 1 ["script"] (spState K)) (c__law_take : Cal P w K mg base "_law_take" 1 ["state", "m"] spTake)
    (c__law_great_holds : Cal P w K mg base "_law_great_holds" 10 ["state"] spGH) (c__law_drawn_indefinite : Cal P w K mg base "_law_drawn_indefinite" 4 ["state", "most"] spDInd) (c__law_disc : Cal P w K mg base "_law_disc" 1 ["f"] spLDisc)
    (c__law_matrix : Cal P w K mg base "_law_matrix" 2 ["state", "turns", "most"] spMat) (c__law_moved : Cal P w K mg base "_law_moved" 2 ["f", "m"] spMov) (c__law_root : Cal P w K mg base "_law_root" 1 ["n"] spLawRoot)
    (c__law_led : Cal P w K mg base "_law_led" 2 ["f", "s"] spLLed) (c__law_walk_holds : Cal P w K mg base "_law_walk_holds" 7 ["f", "s"] spWH) (c_lead_in : CalX P w K mg base "lead_in" 6 ["f"] (spLeadIn K CM CR))
    (c__law_plain : Cal P w K mg base "_law_plain" 5 ["value"] (spTup K)) (c__law_told : Cal P w K mg base "_law_told" 9 ["which", "f"] (spTold K)) (c__law_on_cycle : Cal P w K mg base "_law_on_cycle" 1 ["f", "s"] spLOn)
    (c__law_cycle : Cal P w K mg base "_law_cycle" 2 ["f", "s"] spLCyc) (c_cycle_of : CalX P w K mg base "cycle_of" 8 ["f"] (spCyc K CM CR)) (c_turns_of : CalX P w K mg base "turns_of" 8 ["f"] (spTrn K CM CR))
    (c__law_strange : Cal P w K mg base "_law_strange" 2 ["state"] spStrange) : FnOk P w K mg base CX0 11 f fd ["script"] (spLaw K) := by
  refine F.ok sc_law (fun vs H Q E h => ?_) (fun cdv A outer s H vs Q E hr h => ?_)
  · obtain ⟨a, ns, rfl, _⟩ := h
    rfl
  · obtain ⟨a0, ns, rfl, hS, hl, q⟩ := h
    have e60 : (10 : Int) ^ Int.toNat 60 = B60 := by decide +kernel
    refine ⟨_, (pss_cons (ps_set (i := 1) sc_law.nd rfl (Or.inl rfl) (pe_cal c__law_state (hr.mono (by decide)) rfl (pa_cons (pv 0) pa_nil)))
  (pss_cons (ps_if (pt_not (pt_val (pe_cal c__law_great_holds (hr.mono (by decide)) rfl (pa_cons (pv 1) pa_nil)))) (pss_one (ps_ret pe_bl)) pss_nil)
  (pss_cons (ps_set (i := 2) sc_law.nd rfl (Or.inr rfl) (pe_cal c__law_drawn_indefinite (hr.mono (by decide)) rfl (pa_cons (pv 1) (pa_cons (pe_ix ix_list (pe_lst (pa_cons pe_int (pa_cons pe_int (pa_cons pe_int (pa_cons (pe_op op_powI pe_int pe_int) pa_nil))))) (pe_cal c__law_take (hr.mono (by decide)) rfl (pa_cons (pv 1) (pa_cons pe_int pa_nil))) (fun _ _ => rfl)) pa_nil))))
  (pss_cons (ps_set (i := 3) sc_law.nd rfl (Or.inl rfl) (pe_cal c__law_disc (hr.mono (by decide)) rfl (pa_cons (pv 2) pa_nil)))
  (pss_cons (ps_set (i := 2) sc_law.nd rfl (Or.inr rfl) (pe_cal c__law_moved (hr.mono (by decide)) rfl (pa_cons (pv 2) (pa_cons (pe_cal c__law_matrix (hr.mono (by decide)) rfl (pa_cons (pv 1) (pa_cons (pe_cal c__law_take (hr.mono (by decide)) rfl (pa_cons (pv 1) (pa_cons pe_int pa_nil))) (pa_cons (pe_ix ix_list (pe_lst (pa_cons pe_int (pa_cons pe_int (pa_cons (pe_op op_powI pe_int pe_int) pa_nil)))) (pe_cal c__law_take (hr.mono (by decide)) rfl (pa_cons (pv 1) (pa_cons pe_int pa_nil))) (fun _ _ => rfl)) pa_nil)))) pa_nil))))
  (pss_cons (ps_if (pt_cmpR op_ge (pe_callB (cr_max rfl) rfl B.max (by decide +kernel) (pa_cons (pe_lc (own := [("item", 11)]) rfl sc_law.nd (pi_tup (pv 2)) (blkOk_by (N := ["script", "state", "f", "d", "s", "g", "m", "bad", "own", "turns", "which", "item"]) (sc := defScope s_law) (own := [("item", 11)]) (by decide +kernel)) (fun _ _ _ _ _ => (pg_name (i := 11) sc_law.nd rfl (Or.inl rfl))) (fun _ _ _ _ _ => pts_nil) (fun _ _ _ _ _ => (pe_callB call_abs rfl B.abs (by decide +kernel) (pa_cons (pv 11) pa_nil)))) pa_nil)) (pe_op op_powI pe_int pe_int) (nomark _)) (pss_one (ps_ret pe_bl)) pss_nil)
  (pss_cons (ps_set (i := 4) sc_law.nd rfl (Or.inl rfl) (pe_cal c__law_root (hr.mono (by decide)) rfl (pa_cons (pv 3) pa_nil)))
  (pss_cons (ps_asg (pe_cal c__law_led (hr.mono (by decide)) rfl (pa_cons (pv 2) (pa_cons (pv 4) pa_nil))) (pg_tup rfl (pgs_cons (pg_name (i := 5) sc_law.nd rfl (Or.inl rfl)) (pgs_cons (pg_name (i := 6) sc_law.nd rfl (Or.inl rfl)) pgs_nil))))
  (pss_cons (ps_if (PW.pt (pw_or (pt_not (pt_val (pe_cal c__law_walk_holds (hr.mono (by decide)) rfl (pa_cons (pv 2) (pa_cons (pv 4) pa_nil))))) (pw_or (pt_cmpR (op_neD hr.units) (pe_cal c__law_plain (hr.mono (by decide)) rfl (pa_cons (pe_calS c_lead_in takes0 (hr.mono (by decide)) rfl (pa_cons (pv 2) pa_nil)) pa_nil)) (pe_tup (pa_cons (pv 5) (pa_cons (pv 6) pa_nil))) (nomark _)) (pw_or (pt_cmpR (op_neD hr.units) (pe_cal c__law_moved (hr.mono (by decide)) rfl (pa_cons (pv 2) (pa_cons (pv 6) pa_nil))) (pv 5) (nomark _)) (pw_or1 (pt_cmpR (op_neD hr.units) (pe_cal c__law_plain (hr.mono (by decide)) rfl (pa_cons (pe_calS c_lead_in takes0 (hr.mono (by decide)) rfl (pa_cons (pv 5) pa_nil)) pa_nil)) (pe_tup (pa_cons (pv 5) (pa_cons (pe_tup (pa_cons (pe_tup (pa_cons pe_int (pa_cons pe_int pa_nil))) (pa_cons (pe_tup (pa_cons pe_int (pa_cons pe_int pa_nil))) pa_nil))) pa_nil))) (nomark _))))))) (pss_one (ps_ret pe_bl)) pss_nil)
  (pss_cons (ps_if (pt_cmpR op_gt (pv 3) pe_int (nomark _)) (pss_one (ps_if (pt_cmpR (op_neD hr.units) (pe_lst (pa_cons (pe_cal c__law_told (hr.mono (by decide)) rfl (pa_cons pe_int (pa_cons (pv 2) pa_nil))) (pa_cons (pe_cal c__law_told (hr.mono (by decide)) rfl (pa_cons pe_int (pa_cons (pv 5) pa_nil))) (pa_cons (pe_cal c__law_told (hr.mono (by decide)) rfl (pa_cons pe_int (pa_cons (pv 2) pa_nil))) (pa_cons (pe_cal c__law_told (hr.mono (by decide)) rfl (pa_cons pe_int (pa_cons (pv 5) pa_nil))) pa_nil))))) (pe_op op_rep (pe_lst (pa_cons pe_str pa_nil)) pe_int) (nomark _)) (pss_one (ps_ret pe_bl)) pss_nil)) (pss_cons (ps_if (PW.pt (pw_and (pt_cmpR (op_neD hr.units) (pv 2) (pv 5) (nomark _)) (pw_and (pt_not (pt_val (pe_cal c__law_on_cycle (hr.mono (by decide)) rfl (pa_cons (pv 2) (pa_cons (pv 4) pa_nil))))) (pw_and1 (pt_cmpR (op_neD hr.units) (pe_lc (own := [("which", 10)]) rfl sc_law.nd (pi_tup (pe_tup (pa_cons pe_int (pa_cons pe_int pa_nil)))) (blkOk_by (N := ["script", "state", "f", "d", "s", "g", "m", "bad", "own", "turns", "which", "item"]) (sc := defScope s_law) (own := [("which", 10)]) (by decide +kernel)) (fun _ _ _ _ _ => (pg_name (i := 10) sc_law.nd rfl (Or.inl rfl))) (fun _ _ _ _ _ => pts_nil) (fun _ _ _ _ _ => (pe_cal c__law_told (hr.mono (by decide)) rfl (pa_cons (pv 10) (pa_cons (pv 2) pa_nil))))) (pe_op op_rep (pe_lst (pa_cons pe_str pa_nil)) pe_int) (nomark _)))))) (pss_one (ps_ret pe_bl)) pss_nil)
  (pss_cons (ps_asg (pe_cal c__law_cycle (hr.mono (by decide)) rfl (pa_cons (pv 5) (pa_cons (pv 4) pa_nil))) (pg_tup rfl (pgs_cons (pg_name (i := 8) sc_law.nd rfl (Or.inl rfl)) (pgs_cons (pg_name (i := 9) sc_law.nd rfl (Or.inl rfl)) pgs_nil))))
  (pss_cons (ps_if (PW.pt (pw_or (pt_cmpR (op_neD hr.units) (pe_cal c__law_plain (hr.mono (by decide)) rfl (pa_cons (pe_calS c_cycle_of takes0 (hr.mono (by decide)) rfl (pa_cons (pv 5) pa_nil)) pa_nil)) (pv 8) (nomark _)) (pw_or (pt_cmpR (op_neD hr.units) (pe_cal c__law_plain (hr.mono (by decide)) rfl (pa_cons (pe_calS c_turns_of takes0 (hr.mono (by decide)) rfl (pa_cons (pv 5) pa_nil)) pa_nil)) (pv 9) (nomark _)) (pw_or1 (pt_cmpR op_ne (pe_op op_mod (pe_callTy call_int1 rfl B.int boot_int (pa_cons (pe_callB cr_lenS rfl B.len (by decide +kernel) (pa_cons (pv 8) pa_nil)) pa_nil)) pe_int) pe_int (nomark _)))))) (pss_one (ps_ret pe_bl)) pss_nil)
  (pss_one (ps_if (pt_cmpR (op_neD hr.units) (pe_op op_catT (pe_slice sl_tup (pv 8) (po_some pe_int) po_none) (pe_slice sl_tup (pv 8) po_none (po_some pe_int))) (pe_cal c__law_plain (hr.mono (by decide)) rfl (pa_cons (pe_calS c_cycle_of takes0 (hr.mono (by decide)) rfl (pa_cons (pe_ix ix_tup (pv 8) (pe_op op_mod pe_int (pe_callB cr_lenS rfl B.len (by decide +kernel) (pa_cons (pv 8) pa_nil))) (fun _ _ => rfl)) pa_nil)) pa_nil)) (nomark _)) (pss_one (ps_ret pe_bl)) pss_nil))))))
  (pss_cons (ps_set (i := 7) sc_law.nd rfl (Or.inr rfl) (pe_cal c__law_strange (hr.mono (by decide)) rfl (pa_cons (pv 1) pa_nil)))
  (pss_cons (ps_if (pt_not (pt_val (pe_callB (cr_all rfl) rfl B.all (by decide +kernel) (pa_cons (pe_lc (own := [("which", 10)]) rfl sc_law.nd (pi_range1 rfl B.range (pa_cons pe_int pa_nil)) (blkOk_by (N := ["script", "state", "f", "d", "s", "g", "m", "bad", "own", "turns", "which", "item"]) (sc := defScope s_law) (own := [("which", 10)]) (by decide +kernel)) (fun _ _ _ _ _ => (pg_name (i := 10) sc_law.nd rfl (Or.inl rfl))) (fun _ _ _ _ _ => pts_nil) (fun _ _ _ _ _ => (pe_cmpR op_eq (pe_cal c__law_told (hr.mono (by decide)) rfl (pa_cons (pv 10) (pa_cons (pv 7) pa_nil))) pe_str (nomark _)))) pa_nil)))) (pss_one (ps_ret pe_bl)) pss_nil)
  (pss_one (ps_ret (pe_callB (cr_all rfl) rfl B.all (by decide +kernel) (pa_cons (pe_lc (own := [("which", 10)]) rfl sc_law.nd (pi_range1 rfl B.range (pa_cons pe_int pa_nil)) (blkOk_by (N := ["script", "state", "f", "d", "s", "g", "m", "bad", "own", "turns", "which", "item"]) (sc := defScope s_law) (own := [("which", 10)]) (by decide +kernel)) (fun _ _ _ _ _ => (pg_name (i := 10) sc_law.nd rfl (Or.inl rfl))) (fun _ _ _ _ _ => pts_nil) (fun _ _ _ _ _ => (pe_cmpR op_eq (pe_cal c__law_told (hr.mono (by decide)) rfl (pa_cons (pv 10) (pa_cons (pe_tup (pa_cons pe_int (pa_cons pe_int (pa_cons pe_int pa_nil)))) pa_nil))) pe_str (nomark _)))) pa_nil)))))))))))))))), ?_⟩
    rw [CB.rd_seq]
    walk_at "rs"
    refine ⟨a0, ns, rfl, hS, hl, fun st x y H1 sm1 nst hst => ?_⟩
    clear hS sm1 nst
    refine seq_cut (fun σ H => ∃ x y, σ = [some (.ref a0), some (.ref st), none, none, none, none, none, none, none, none, none, none] ∧ H st = some (.lst [.int x, .int y])) (fun R hR => ?_) ?_
    · walk_at "rs"
      refine ⟨st, x, y, rfl, hst, fun x1 y1 H2 bt h2 => ⟨true, rfl, ?_⟩⟩
      rw [if_neg (by decide)]
      exact hR _ _ ⟨x1, y1, rfl, h2⟩
    clear hst
    rintro σ H1 ⟨x, y, rfl, hst⟩
    refine seq_cut (fun σ H => ∃ p a b c x y, σ = [some (.ref a0), some (.ref st), some (.ref p), none, none, none, none, none, none, none, none, none] ∧ H st = some (.lst [.int x, .int y]) ∧ H p = some (.tup [.int a, .int b, .int c]) ∧ discB (dsc a b c) = true ∧ 0 < dsc a b c ∧ Sz 70 a ∧ Sz 70 b ∧ Sz 70 c ∧ Sz 70 (dsc a b c)) (fun R hR => ?_) ?_
    · walk_at "rs"
      refine ⟨powI (n := 4) (by decide) (by decide) (by decide) (by decide), by decide, fun l nl => ?_⟩
      have sl : st ≠ l := ne_of_none hst nl
      refine ⟨st, x, y, 4, rfl, by rw [upd_ne sl]; exact hst, by decide, by decide +kernel, fun v x1 y1 v0 v1 => ?_⟩
      have pick : ∃ n, atI [V.int 3000, V.int 3000, V.int 1000000, V.int (10 ^ Int.toNat 18)] v = some (.int n) ∧ 2 < n ∧ n ≤ 1000000000000000000 := by
        have c : v = 0 ∨ v = 1 ∨ v = 2 ∨ v = 3 := by omega
        rcases c with rfl | rfl | rfl | rfl <;> exact ⟨_, rfl, by decide +kernel, by decide +kernel⟩
      obtain ⟨n, en, n1, n2⟩ := pick
      exact ⟨_, v, rfl, SqL.of (by rw [upd_ne sl.symm, upd_same]), _, en, st, x1, y1, n, rfl, upd_same, n1, n2, fun p f x2 y2 H' bt h' hp hd h0 z1 z2 z3 zd => hR _ _ ⟨p, _, _, _, x2, y2, rfl, h', hp, hd, h0, z1, z2, z3, zd⟩⟩
    clear hst
    rintro σ H1 ⟨p, a, b, c, x, y, rfl, hst, hp, hd, h0, z1, z2, z3, zd⟩
    rw [CB.rd_seq]
    walk_at "rs"
    refine ⟨p, a, b, c, rfl, hp, z2.ok z2 (by decide) (by decide), (sz_lit.2.mul z1).ok z3 (by decide) (by decide), ?_⟩
    show tSeq _ _ _ _ _
    refine seq_cut (fun σ H => ∃ p5 M x y, σ = [some (.ref a0), some (.ref st), some (.ref p5), some (.int (dsc a b c)), none, none, none, none, none, none, none, none] ∧ H st = some (.lst [.int x, .int y]) ∧
        H p5 = some (.tup [.int (movT a b c M).1, .int (movT a b c M).2.1, .int (movT a b c M).2.2]) ∧ detM M = 1) (fun R hR => ?_) ?_
    · walk_at "rs"
      refine ⟨st, x, y, 8, rfl, hst, by decide, by decide +kernel, fun t x3 y3 t0 t1 => ?_⟩
      have b1 : But st H1 (upd H1 st (.lst [.int x3, .int y3])) := But.refl.upd
      have h3 : (upd H1 st (.lst [.int x3, .int y3])) st = some (.lst [.int x3, .int y3]) := upd_same
      generalize upd H1 st (.lst [.int x3, .int y3]) = H3 at *
      refine ⟨powI (n := 4) (by decide) (by decide) (by decide) (by decide), by decide, fun l1 nl1 => ?_⟩
      have sl : st ≠ l1 := ne_of_none h3 nl1
      refine ⟨st, x3, y3, 3, rfl, by rw [upd_ne sl]; exact h3, by decide, by decide +kernel, fun v x6 y6 v0 v1 => ?_⟩
      have pick : ∃ n, atI [V.int 2, V.int 9, V.int (10 ^ Int.toNat 6)] v = some (.int n) ∧ 1 ≤ n ∧ n ≤ 100000000000000000000 := by
        have c : v = 0 ∨ v = 1 ∨ v = 2 := by omega
        rcases c with rfl | rfl | rfl <;> exact ⟨_, rfl, by decide +kernel, by decide +kernel⟩
      obtain ⟨n, en, n1, n2⟩ := pick
      have b6 : But st H1 (upd (upd H3 l1 (.lst [V.int 2, V.int 9, V.int (10 ^ Int.toNat 6)])) st (.lst [.int x6, .int y6])) := (b1.same (same_upd nl1)).upd
      refine ⟨_, v, rfl, SqL.of (by rw [upd_ne sl.symm, upd_same]), _, en, st, x6, y6, t, n, rfl, upd_same, t0, by omega, n1, n2, fun g m x7 y7 H7 bt h7 hm hd hs => ?_⟩
      have kp := (b6.trans bt).kp hst
      refine ⟨p, g, a, b, c, m, rfl, kp.1 _ _ hp, hm, z1.le (by decide), z2.le (by decide), z3.le (by decide), ⟨hs.1.le (by decide), hs.2.1.le (by decide), hs.2.2.1.le (by decide), hs.2.2.2.le (by decide)⟩, fun q8 n8 => ?_⟩
      have s8 := same_upd (o := HO.tup [.int (movT a b c m).1, .int (movT a b c m).2.1, .int (movT a b c m).2.2]) n8
      exact hR _ _ ⟨q8, m, x7, y7, rfl, s8 _ _ h7, upd_same, hd⟩
    clear hst hp x y
    rintro σ H3 ⟨p5, M, x, y, rfl, h3, hf3, dM⟩
    have ed := dsc_mov (a := a) (b := b) (c := c) dM
    rw [← ed] at hd h0 zd ⊢
    clear ed dM z1 z2 z3
    generalize movT a b c M = F3 at *
    clear M a b c H1 p
    refine seq_cut (fun σ H => σ = [some (.ref a0), some (.ref st), some (.ref p5), some (.int (dsc F3.1 F3.2.1 F3.2.2)), none, none, none, none, none, none, none, none] ∧ Same H3 H ∧ ((F3.1.natAbs : Int) < B60 ∧ (F3.2.1.natAbs : Int) < B60 ∧ (F3.2.2.natAbs : Int) < B60)) (fun R hR => ?_) ?_
    · walk_at "rs"
      refine ⟨⟨_, SqT.of hf3⟩, LcT.w (xs := ([F3.1, F3.2.1, F3.2.2] : List Int).map V.int) (fun i D zs H4 => zs = ((([F3.1, F3.2.1, F3.2.2] : List Int).take i).map fun i : Int => (i.natAbs : Int)).map V.int ∧ Same H3 H4 ∧ H4 D = some (.lst zs) ∧ H3 D = none) (fun D nD => ⟨rfl, same_upd nD, upd_same, nD⟩) ?_ ?_ ?_⟩
      · rintro D i zs H4 _ ⟨_, sm, _, _⟩
        exact SqT.of (sm _ _ hf3)
      · rintro D i x zs H4 hv ⟨rfl, sm, hD, nD⟩ Nx hN
        rw [List.getElem?_map] at hv
        obtain ⟨n, hn, rfl⟩ := Option.map_eq_some_iff.mp hv
        have hi : i < 3 := (List.getElem?_eq_some_iff.mp hn).1
        walk_at "rs"
        refine ⟨_, hD, ?_, hN _ _ ⟨?_, same_at sm nD, upd_same, nD⟩⟩
        · rw [List.length_map, List.length_map, List.length_take]
          exact small_size (by omega)
        · rw [List.take_add_one, hn, List.map_append, List.map_append, iabs]
          rfl
      · rintro D zs H4 nD ⟨rfl, s4, hD, _⟩
        refine ⟨D, [(F3.1.natAbs : Int), (F3.2.1.natAbs : Int), (F3.2.2.natAbs : Int)], rfl, SqL.of hD, by show 0 < 3; decide, fun m hm hmax => ?_⟩
        refine ⟨powI (n := 4) (by decide) (by decide) (by decide) (by decide), m, rfl, ?_⟩
        rw [e60]
        refine ite2 (fun c1 => q H4) (fun c1 => hR _ _ ⟨rfl, s4, ?_⟩)
        have w : ∀ y : Int, y ∈ [(F3.1.natAbs : Int), (F3.2.1.natAbs : Int), (F3.2.2.natAbs : Int)] → y < B60 := fun y hy => by
          have := hmax y hy
          omega
        exact ⟨w _ (by simp), w _ (by simp), w _ (by simp)⟩
    rintro σ H4 ⟨rfl, s4, b1, b2, b3⟩
    have h4 := s4 _ _ h3
    have hf4 := s4 _ _ hf3
    clear h3 hf3 s4 H3
    have hI : IsIn H4 (.ref p5) F3 := ⟨p5, rfl, hf4, formB_mk b1 b2 b3 hd h0, h0⟩
    have hg := hI.good
    have zf := form_sz (form_lg (formB_mk b1 b2 b3 hd h0))
    have hDB : dsc F3.1 F3.2.1 F3.2.2 < B60 := by
      unfold Sz at zd
      unfold B60
      omega
    rw [CB.rd_seq]
    walk_at "rs"
    refine ⟨_, rfl, Int.le_of_lt h0, hg.2.2.2, ?_⟩
    show tSeq _ _ _ _ _
    rw [CB.rd_seq]
    walk_at "rs"
    refine ⟨.ref p5, F3, rfl, hI, fun n q1 H5 hF s5 n5 hq => ?_⟩
    obtain ⟨xg, xm, l1, l2, l3⟩ := hq
    obtain ⟨pg, rfl, hpg⟩ := l2
    refine ⟨q1, rfl, _, SqT.of l1, rfl, _, _, rfl, _, _, rfl, rfl, ?_⟩
    have h5 := s5 _ _ h4
    have hI5 := hI.same s5
    have hG := it_in hI hDB (i := n) ⟨pg, rfl, hpg⟩
    have fitG := it_first (H' := H5) (x := .ref pg) hI hF hDB
    have dG := dsc_it hI n
    have rG := rt_it hI n
    have lgG := it_lg hI hDB n
    have mvG := movT_mt hg.1.1 n
    have zM : SzM 90000 (mt (rtF F3) F3 n) := by
      have z := mt_sz hg.1 hI.dsz n
      have := hF.1
      exact ⟨z.1.le (by omega), z.2.1.le (by omega), z.2.2.1.le (by omega), z.2.2.2.le (by omega)⟩
    have uF : ∀ m, First F3 m → m = n := fun m h => first_uniq hF h
    show tSeq _ _ _ _ _
    clear h4 hf4 hI s5 n5 l1
    obtain ⟨pm, rfl, l3⟩ : ∃ pm, xm = .ref pm ∧ IsM H5 (.ref pm) (mt (rtF F3) F3 n) := by
      obtain ⟨r, r1, r2, rfl, y1, y2, y3⟩ := l3
      exact ⟨r, rfl, r, r1, r2, rfl, y1, y2, y3⟩
    have hf5 : H5 p5 = some (.tup [.int F3.1, .int F3.2.1, .int F3.2.2]) := by
      obtain ⟨r, e, h, _⟩ := hI5
      cases e
      exact h
    generalize eG : it (rtF F3) F3 n = G at *
    generalize eM : mt (rtF F3) F3 n = Mn at *
    refine seq_cut (fun σ H => σ = [some (.ref a0), some (.ref st), some (.ref p5), some (.int (dsc F3.1 F3.2.1 F3.2.2)), some (.int (rtF F3)), some (.ref pg), some (.ref pm), none, none, none, none, none] ∧ Same H5 H) (fun R hR => ?_) ?_
    · walk_at "rs"
      refine ⟨.ref p5, F3, rfl, hI5, hDB, fun H6 s6 => ⟨true, rfl, ?_⟩⟩
      rw [if_neg (by decide)]
      refine ⟨.ref p5, rfl, .inr ⟨F3, hI5.same s6, fun n' hF' => ?_⟩⟩
      have en := uF n' hF'
      subst en
      refine .inr ⟨by rw [eG]; exact lgG, fun q2 H7 s7 n7 hq2 => ?_⟩
      rw [eG, eM] at hq2
      obtain ⟨x2, y2, w0, w1, w2⟩ := hq2
      refine ⟨q2, [x2, y2], [.T G, .M Mn], rfl, SqT.of w0, ⟨w1, w2, trivial⟩, by show 2 ≤ 10000000; decide, fun p8 ys8 H8 s8 n8 hp8 hys8 => ⟨by decide, fun p9 n9 => ?_⟩⟩
      have s59 := ((s6.trans s7).trans s8).trans (same_upd (o := HO.tup [V.ref pg, V.ref pm]) n9)
      refine ⟨_, _, dp_Is (same_upd n9 _ _ hp8) (atsN_same (same_upd n9) hys8), dp_Is (is := [.T G, .M Mn]) upd_same ⟨⟨pg, rfl, s59 _ _ hpg⟩, l3.same s59, trivial⟩, shaped_Is _, shaped_Is _, false, ?_, ?_⟩
      · rw [eqv_Is]
        rfl
      rw [if_neg (by decide)]
      generalize upd H8 p9 (HO.tup [V.ref pg, V.ref pm]) = H9 at *
      refine ⟨p5, pm, F3.1, F3.2.1, F3.2.2, Mn, rfl, s59 _ _ hf5, l3.same s59, zf.1.le (by decide), zf.2.1.le (by decide), zf.2.2.le (by decide), zM, fun q8 n8 => ?_⟩
      have s10 := s59.trans (same_upd (o := HO.tup [.int (movT F3.1 F3.2.1 F3.2.2 Mn).1, .int (movT F3.1 F3.2.1 F3.2.2 Mn).2.1, .int (movT F3.1 F3.2.1 F3.2.2 Mn).2.2]) n8)
      refine ⟨dT3 (movT F3.1 F3.2.1 F3.2.2 Mn), dT3 G, atT_dp ⟨q8, rfl, upd_same⟩, atT_dp ⟨pg, rfl, s10 _ _ hpg⟩, shaped_one _, shaped_one _, false, ?_, ?_⟩
      · rw [eqv_t3, decide_eq_true mvG]
        rfl
      rw [if_neg (by decide)]
      generalize upd H9 q8 (HO.tup [.int (movT F3.1 F3.2.1 F3.2.2 Mn).1, .int (movT F3.1 F3.2.1 F3.2.2 Mn).2.1, .int (movT F3.1 F3.2.1 F3.2.2 Mn).2.2]) = H10 at *
      refine ⟨.ref pg, rfl, .inr ⟨G, hG.same s10, fun n' hF' => ?_⟩⟩
      have en := first_uniq (first_zero fitG) hF'
      subst en
      refine .inr ⟨lgG, fun q2 H7 s7 n7 hq2 => ?_⟩
      obtain ⟨x2, y2, w0, w1, w2⟩ := hq2
      refine ⟨q2, [x2, y2], [.T G, .M idM], rfl, SqT.of w0, ⟨w1, w2, trivial⟩, by show 2 ≤ 10000000; decide, fun p8 ys8 H8 s8 n8 hp8 hys8 => ⟨by decide, fun u1 m1 => ⟨by decide, fun u2 m2 => ⟨by decide, fun u3 m3 => ?_⟩⟩⟩⟩
      obtain ⟨sA, mA⟩ := newM m1 m2 m3
      generalize upd (upd (upd H8 u1 _) u2 _) u3 _ = HA at *
      refine ⟨by decide, fun u4 m4 => ?_⟩
      have s5A := (((s10.trans s7).trans s8).trans sA).trans (same_upd (o := HO.tup [V.ref pg, V.ref u3]) m4)
      refine ⟨_, _, dp_Is (same_upd m4 _ _ (sA _ _ hp8)) (atsN_same (sA.trans (same_upd m4)) hys8), dp_Is (is := [.T G, .M idM]) upd_same ⟨⟨pg, rfl, s5A _ _ hpg⟩, mA.same (same_upd m4), trivial⟩, shaped_Is _, shaped_Is _, false, ?_, ?_⟩
      · rw [eqv_Is]
        rfl
      rw [if_neg (by decide)]
      exact hR _ _ ⟨rfl, s5A⟩
    rintro σ H6 ⟨rfl, s6⟩
    have hI6 := hI5.same s6
    have hG6 := hG.same s6
    have h6 := s6 _ _ h5
    have hpg6 := s6 _ _ hpg
    have hf6 := s6 _ _ hf5
    clear hI5 hG h5 hpg hf5 s6
    clear l3
    refine seq_cut (fun σ H => ∃ s8 s9, σ = [some (.ref a0), some (.ref st), some (.ref p5), some (.int (dsc F3.1 F3.2.1 F3.2.2)), some (.int (rtF F3)), some (.ref pg), some (.ref pm), none, s8, s9, none, none] ∧ Same H6 H) (fun R hR => ?_) ?_
    · walk_at "rs"
      refine ite2 (fun hb => ?_) (fun hs => ?_)
      · have hb' : 1000000 < dsc G.1 G.2.1 G.2.2 := by rw [dG]; exact hb
        refine ⟨st, 3, .ref p5, rfl, .inr ⟨F3, hI6, .inr (.inr ⟨.inl rfl, .inl ⟨hb, fun H7 s7 => ?_⟩⟩)⟩⟩
        refine ⟨st, 3, .ref pg, rfl, .inr ⟨G, hG6.same s7, .inr (.inr ⟨.inl rfl, .inl ⟨hb', fun H8 s8 => ?_⟩⟩)⟩⟩
        refine ⟨st, 4, .ref p5, rfl, .inr ⟨F3, (hI6.same s7).same s8, .inr (.inr ⟨.inr rfl, .inl ⟨hb, fun H9 s9 => ?_⟩⟩)⟩⟩
        refine ⟨st, 4, .ref pg, rfl, .inr ⟨G, ((hG6.same s7).same s8).same s9, .inr (.inr ⟨.inr rfl, .inl ⟨hb', fun H10 s10 => ⟨by decide, fun l1 n1 => ⟨by decide, fun l2 n2 => ?_⟩⟩⟩⟩)⟩⟩
        refine ⟨[V.str "large"], upd_same, by decide, by decide, by decide +kernel, fun l3 n3 => ?_⟩
        have sB := ((same_upd (o := HO.lst [V.str "large", V.str "large", V.str "large", V.str "large"]) n1).trans (same_upd (o := HO.lst [V.str "large"]) n2)).trans (same_upd (o := HO.lst (List.replicate (Int.toNat 4) [V.str "large"]).flatten) n3)
        refine ⟨_, _, dp_rep (x := "large") (n := 4) (same_upd n3 _ _ (same_upd n2 _ _ upd_same)), dp_rep (x := "large") (n := 4) upd_same, by decide +kernel, by decide +kernel, false, by decide +kernel, ?_⟩
        rw [if_neg (by decide)]
        exact hR _ _ ⟨_, _, rfl, (((s7.trans s8).trans s9).trans s10).trans sB⟩
      have hsG : dsc G.1 G.2.1 G.2.2 ≤ 1000000 := by rw [dG]; omega
      have hsF : dsc F3.1 F3.2.1 F3.2.2 ≤ 1000000 := by omega
      obtain ⟨k, hL⟩ := hG6.lap hsG fitG
      obtain ⟨ke, k2⟩ := lap_two hG6 fitG hL
      have k5 := hL.2.1
      refine seq_cut (fun σ H => ∃ s8 s9, σ = [some (.ref a0), some (.ref st), some (.ref p5), some (.int (dsc F3.1 F3.2.1 F3.2.2)), some (.int (rtF F3)), some (.ref pg), some (.ref pm), none, s8, s9, none, none] ∧ Same H6 H) (fun R hR' => ?_) ?_
      · walk_at "rs"
        refine ⟨dT3 F3, dT3 G, atT_dp ⟨p5, rfl, hf6⟩, atT_dp ⟨pg, rfl, hpg6⟩, shaped_one _, shaped_one _, _, rfl, ?_⟩
        rw [eqv_t3]
        by_cases e : F3 = G
        · rw [decide_eq_true e, if_neg (by decide)]
          exact hR' _ _ ⟨_, _, rfl, Same.refl _⟩
        rw [decide_eq_false e, if_pos (by decide)]
        refine ⟨p5, F3, _, rfl, ⟨p5, rfl, hf6⟩, _, rfl, ?_⟩
        by_cases yf : fits (rtF F3) F3
        · rw [decide_eq_true yf, if_neg (by decide)]
          exact hR' _ _ ⟨_, _, rfl, Same.refl _⟩
        rw [decide_eq_false yf, if_pos (by decide)]
        refine ⟨by decide, fun t1 m1 => ?_⟩
        have u1 := same_upd (o := HO.tup [V.int 3, V.int 4]) m1
        have ht1 : upd H6 t1 (HO.tup [V.int 3, V.int 4]) t1 = some (HO.tup [V.int 3, V.int 4]) := upd_same
        generalize upd H6 t1 (HO.tup [V.int 3, V.int 4]) = H7 at *
        refine ⟨⟨_, SqT.of ht1⟩, LcT.w (xs := [V.int 3, V.int 4]) (fun i D zs H4 => zs = List.replicate i (V.str "cycle") ∧ Same H7 H4 ∧ H4 D = some (.lst zs) ∧ H7 D = none) (fun D nD => ⟨rfl, same_upd nD, upd_same, nD⟩) ?_ ?_ ?_⟩
        · rintro D i zs H4 _ ⟨_, sm, _, _⟩
          exact SqT.of (sm _ _ ht1)
        · rintro D i v zs H4 hv ⟨rfl, sm, hD, nD⟩ Nx hN
          have hi : i < 2 := (List.getElem?_eq_some_iff.mp hv).1
          have pick : ∃ j : Int, v = .int j ∧ (j = 3 ∨ j = 4) := by
            have c : i = 0 ∨ i = 1 := by omega
            rcases c with rfl | rfl <;> cases hv
            · exact ⟨3, rfl, .inl rfl⟩
            · exact ⟨4, rfl, .inr rfl⟩
          obtain ⟨j, rfl, hj⟩ := pick
          walk_at "rs"
          refine ⟨st, j, .ref p5, rfl, .inr ⟨F3, (hI6.same u1).same sm, .inr (.inr ⟨hj, .inr ⟨hsF, yf, fun H8 s8 => ⟨_, s8 _ _ hD, ?_, hN _ _ ⟨?_, same_at (sm.trans s8) nD, upd_same, nD⟩⟩⟩⟩)⟩⟩
          · rw [List.length_replicate]
            exact small_size (by omega)
          · rw [List.replicate_succ']
        · rintro D zs H4 nD ⟨rfl, s4, hD, _⟩
          refine ⟨by decide, fun l2 n2 => ?_⟩
          refine ⟨[V.str "cycle"], upd_same, by decide, by decide, by decide +kernel, fun l3 n3 => ?_⟩
          refine ⟨_, _, dp_rep (x := "cycle") (n := 2) (same_upd n3 _ _ (same_upd n2 _ _ hD)), dp_rep (x := "cycle") (n := 2) upd_same, by decide +kernel, by decide +kernel, false, by decide +kernel, ?_⟩
          rw [if_neg (by decide)]
          exact hR' _ _ ⟨_, _, rfl, ((u1.trans s4).trans (same_upd n2)).trans (same_upd n3)⟩
      rintro σ H7 ⟨s8, s9, rfl, s67⟩
      have hG7 := hG6.same s67
      rw [CB.rd_seq]
      walk_at "rs"
      refine ⟨.ref pg, G, k, by rw [rG], hG7, hL, fun q2 H8 s8 n8 hq => ?_⟩
      obtain ⟨pf, pt, xs, ys, c0, c1, c2, c3, c4⟩ := hq
      refine ⟨q2, rfl, _, SqT.of c0, rfl, _, _, rfl, _, _, rfl, rfl, ?_⟩
      have hG8 := hG7.same s8
      have lx := atsN_len c2
      rw [Fl_len] at lx
      have ly := atsN_len c4
      rw [Tl_len] at ly
      show tSeq _ _ _ _ _
      refine seq_cut (fun σ H => σ = [some (.ref a0), some (.ref st), some (.ref p5), some (.int (dsc F3.1 F3.2.1 F3.2.2)), some (.int (rtF F3)), some (.ref pg), some (.ref pm), none, some (.ref pf), some (.ref pt), none, none] ∧ Same H8 H) (fun R hR' => ?_) ?_
      · walk_at "rs"
        refine ⟨.ref pg, rfl, .inr ⟨G, hG8, .inr ⟨hsG, .inr ⟨fitG, k, hL, fun q3 xs3 H9 s9 n9 e9 a9 => ?_⟩⟩⟩⟩
        have l9 := atsN_len a9
        rw [Fl_len] at l9
        refine ⟨q3, xs3, _, rfl, SqT.of e9, atsN_K a9, by omega, fun p4 ys4 H10 s10 n10 e10 a10 => ?_⟩
        have sA := s9.trans s10
        refine ⟨_, _, dp_Is e10 a10, dp_Is (sA _ _ c1) (atsN_same sA c2), shaped_Is _, shaped_Is _, false, ?_, ?_⟩
        · rw [eqv_Is]
          rfl
        rw [if_neg (by decide)]
        refine ⟨.ref pg, rfl, .inr ⟨G, hG8.same sA, .inr ⟨hsG, .inr ⟨fitG, k, hL, fun q5 xs5 H11 s11 n11 e11 a11 => ?_⟩⟩⟩⟩
        have l11 := atsN_len a11
        rw [Tl_len] at l11
        refine ⟨q5, xs5, _, rfl, SqT.of e11, atsN_K a11, by omega, fun p6 ys6 H12 s12 n12 e12 a12 => ?_⟩
        have sB := (sA.trans s11).trans s12
        refine ⟨_, _, dp_Is e12 a12, dp_Is (sB _ _ c3) (atsN_same sB c4), shaped_Is _, shaped_Is _, false, ?_, ?_⟩
        · rw [eqv_Is]
          rfl
        rw [if_neg (by decide)]
        refine ⟨k, .inr ⟨xs, SqT.of (sB _ _ c1), lx.symm⟩, ?_⟩
        have ke' : (k : Int) % 2 = 0 := by omega
        rw [if_pos ke']
        exact ⟨by decide, hR' _ _ ⟨rfl, sB⟩⟩
      rintro σ H9 ⟨rfl, s9⟩
      have c1' := s9 _ _ c1
      have c2' := atsN_same s9 c2
      walk_at "rs"
      refine ⟨pf, xs, rfl, SqT.of c1', (cut1 (by omega)).2, fun pa na => ?_⟩
      rw [(cut1 (by omega : 2 ≤ xs.length)).1]
      have u1 := same_upd (o := HO.tup (xs.drop 1)) na
      have ha : (upd H9 pa (.tup (xs.drop 1))) pa = some (.tup (xs.drop 1)) := upd_same
      generalize upd H9 pa (.tup (xs.drop 1)) = H10 at *
      refine ⟨pf, xs, rfl, SqT.of (u1 _ _ c1'), (cut2 (by omega)).2, fun pb nb => ?_⟩
      rw [(cut2 (by omega : 2 ≤ xs.length)).1]
      have u2 := same_upd (o := HO.tup (xs.take 1)) nb
      have hb : (upd H10 pb (.tup (xs.take 1))) pb = some (.tup (xs.take 1)) := upd_same
      generalize upd H10 pb (.tup (xs.take 1)) = H11 at *
      have nd : xs.drop 1 ≠ [] := fun z => by
        have := congrArg List.length z
        rw [List.length_drop] at this
        simp only [List.length_nil] at this
        omega
      have nt : xs.take 1 ≠ [] := fun z => by
        have := congrArg List.length z
        rw [List.length_take] at this
        simp only [List.length_nil] at this
        omega
      refine ⟨pa, pb, _, _, rfl, rfl, SqT.of (u2 _ _ ha), SqT.of hb, nd, ?_, fun z => absurd z nt, fun _ pc nc => ?_⟩
      · rw [List.length_drop, List.length_take]
        exact Nat.le_of_lt (small_size (by omega))
      have u3 := same_upd (o := HO.tup (xs.drop 1 ++ xs.take 1)) nc
      have hc : (upd H11 pc (.tup (xs.drop 1 ++ xs.take 1))) pc = some (.tup (xs.drop 1 ++ xs.take 1)) := upd_same
      generalize upd H11 pc (.tup (xs.drop 1 ++ xs.take 1)) = H12 at *
      have sC := (u1.trans u2).trans u3
      have hrot : AtsN H12 (xs.drop 1 ++ xs.take 1) (Fl (rtF G) (it (rtF G) G 1) k) := by
        rw [← Fl_rot hL.1 hL.2.2.1]
        exact atsN_app (atsN_drop 1 (atsN_same sC c2')) (atsN_take 1 (atsN_same sC c2'))
      have hG12 := (hG8.same s9).same sC
      have hDG : dsc G.1 G.2.1 G.2.2 < B60 := by rw [dG]; exact hDB
      obtain ⟨v1, hv1⟩ : ∃ v1, xs[1]? = some v1 := ⟨xs[1]'(by omega), List.getElem?_eq_getElem (by omega)⟩
      have hx1 : AtT H12 v1 (it (rtF G) G 1) := by
        obtain ⟨i, hi, ha⟩ := atsN_get (atsN_same sC c2') hv1
        have e : (Fl (rtF G) G k)[1]? = some (Itm.T (it (rtF G) G 1)) := by
          unfold Fl
          rw [List.getElem?_map, List.getElem?_range (by omega)]
          rfl
        rw [e] at hi
        cases hi
        exact ha
      have hI1 := it_in hG12 hDG hx1
      have r1 := rt_it hG12 1
      have d1 := dsc_it hG12 1
      have f1 : fits (rtF (it (rtF G) G 1)) (it (rtF G) G 1) := by
        rw [r1]
        exact it_fits hG12.good.1.1 fitG 1
      have L1 := lap_next hG12 fitG hL
      refine ⟨k, .inr ⟨xs, SqT.of (sC _ _ c1'), lx.symm⟩, by omega, xs, SqT.of (sC _ _ c1'), v1, ?_, ?_⟩
      · rw [Int.emod_eq_of_lt (by decide) (by omega)]
        show atI xs ((1 : Nat) : Int) = _
        exact atI_nat hv1
      refine ⟨v1, rfl, .inr ⟨_, hI1, .inr ⟨by rw [d1]; exact hsG, .inr ⟨f1, k, L1, fun q3 xs3 H13 s13 n13 e13 a13 => ?_⟩⟩⟩⟩
      rw [r1] at a13
      have l13 := atsN_len a13
      rw [Fl_len] at l13
      refine ⟨q3, xs3, _, rfl, SqT.of e13, atsN_K a13, by omega, fun p4 ys4 H14 s14 n14 e14 a14 => ?_⟩
      have sD := s13.trans s14
      refine ⟨_, _, dp_Is (sD _ _ hc) (atsN_same sD hrot), dp_Is e14 a14, shaped_Is _, shaped_Is _, false, ?_, ?_⟩
      · rw [eqv_Is]
        rfl
      rw [if_neg (by decide)]
      exact hR _ _ ⟨_, _, rfl, ((((s67.trans s8).trans s9).trans sC).trans sD)⟩
    rintro σ H7 ⟨s8, s9, rfl, s7⟩
    have h7 := s7 _ _ h6
    rw [CB.rd_seq]
    walk_at "rs"
    refine ⟨st, x, y, rfl, h7, fun v x4 y4 H8 b8 h8 nf => ?_⟩
    show tSeq _ _ _ _ _
    rw [CB.rd_seq]
    walk_at "rs"
    refine ⟨by decide, by decide, LcR.w (fun i D zs H3 => zs = (List.replicate i true).map V.bl ∧ Same H8 H3 ∧ H3 D = some (.lst zs) ∧ H8 D = none) (fun D nD => ⟨rfl, same_upd nD, upd_same, nD⟩) ?_ ?_⟩
    · rintro D i zs H3 hi ⟨rfl, sm, hD, nD⟩ Nx hN
      have hi : i < 5 := hi
      walk_at "rs"
      refine ⟨st, _, _, rfl, .inl ⟨by omega, by omega, .inl (nf.kp (.of sm)), fun H4 s4 => ⟨rfl, _, s4 _ _ hD, ?_, hN _ _ ⟨?_, same_at (sm.trans s4) nD, upd_same, nD⟩⟩⟩⟩
      · rw [List.length_map, List.length_replicate]
        exact small_size (by omega)
      · rw [List.replicate_succ', List.map_append, decide_eq_true rfl]
        rfl
    · rintro D zs H3 nD ⟨rfl, sm, hD, _⟩
      refine ⟨D, rfl, _, SqL.of hD, ?_⟩
      rw [if_neg (by decide)]
      refine ⟨by decide, by decide, LcR.w (fun i D zs H4 => zs = (List.replicate i true).map V.bl ∧ Same H3 H4 ∧ H4 D = some (.lst zs) ∧ H3 D = none) (fun D nD => ⟨rfl, same_upd nD, upd_same, nD⟩) ?_ ?_⟩
      · rintro D i zs H4 hi ⟨rfl, sm, hD, nD⟩ Nx hN
        have hi : i < 5 := hi
        walk_at "rs"
        refine ⟨by decide, fun p1 n1 => ?_⟩
        have u1 := same_upd (o := HO.tup [V.int 1, V.int 1, V.int 6]) n1
        refine ⟨st, _, _, rfl, .inl ⟨by omega, by omega, .inr ⟨p1, 1, 1, 6, rfl, upd_same, by decide +kernel, by decide +kernel⟩, fun H5 s5 => ⟨rfl, _, s5 _ _ (u1 _ _ hD), ?_, hN _ _ ⟨?_, same_at ((sm.trans u1).trans s5) nD, upd_same, nD⟩⟩⟩⟩
        · rw [List.length_map, List.length_replicate]
          exact small_size (by omega)
        · rw [List.replicate_succ', List.map_append, decide_eq_true rfl]
          rfl
      · rintro D zs H4 nD ⟨rfl, sm, hD, _⟩
        exact ⟨D, rfl, _, SqL.of hD, q H4⟩
end

abbrev s_RI : Stmt := inClass (top 4) 0
theorem sc_RI : FnScope ["self", "reason"] ["self", "reason"] (defScope s_RI) := ⟨rfl, rfl, rfl, by decide +kernel, rfl, by decide +kernel, by decide +kernel⟩
theorem ri_fn {P : Program} {w : World} {K : PySem.W.Frag} {mg : Str → Option Value} {base : Heap} {f : Addr} {fd : FuncData} (F : Fun K "__init__" "Refused.__init__" s_RI f fd) : FnOk P w K mg base CX0 1 f fd ["self", "reason"] (spRI K) := by
  refine F.ok sc_RI (fun vs H Q E h => by obtain ⟨a, C, v, rfl, _⟩ := h; rfl) (fun cdv A outer s H vs Q E hr h => ?_)
  obtain ⟨a, C, v, rfl, ox, n, ha, q⟩ := h
  refine ⟨_, pss_one (ps_ost (pv 0) (pv 1)), ?_⟩
  exact ⟨_, rfl, _, rfl, a, C, rfl, ox, n, .inl ⟨ha, fun dx hd ne => q dx hd ne⟩⟩
theorem all_mk {l : PySem.W.OpenLaw} {w : World} {K : PySem.W.Frag} {h : Heap} {mg : Str → Option Value} {fa f__law_take f__law_state f_is_integer f__law_whole f_root f__law_root f_is_square f_is_discriminant f_is_row f_is_large f_told_discriminant f_is_form f_check_form f__law_value f__law_moved f__law_product f_check_items f__law_matrix f__law_strange f__law_plain f__law_no_word f_check_indefinite f__root_of f_fits f_step_from f_with_turn f_check_walked f_is_on_cycle f_next_form f_lead f_lead_in f_walk f__check_walk f_cycle_of f_turns_of f__law_says f__law_disc f__law_on_cycle f__law_next f__law_led f__law_cycle f__law_is_told_disc f__law_drawn_disc f__law_drawn_indefinite f__law_told f__law_walk_holds f__law_great_holds f_law CM CR fI NR aU a1 a2 : Addr} (X : K.In h) (G : h.Ns mainGlobals mg) (hfa : mg "law" = some (.ref fa))
    {od__law_take an__law_take od__law_state an__law_state od_is_integer an_is_integer od__law_whole an__law_whole od_root an_root od__law_root an__law_root od_is_square an_is_square od_is_discriminant an_is_discriminant od_is_row an_is_row od_is_large an_is_large od_told_discriminant an_told_discriminant od_is_form an_is_form od_check_form an_check_form od__law_value an__law_value od__law_moved an__law_moved od__law_product an__law_product od_check_items an_check_items od__law_matrix an__law_matrix od__law_strange an__law_strange od__law_plain an__law_plain od__law_no_word an__law_no_word od_check_indefinite an_check_indefinite od__root_of an__root_of od_fits an_fits od_step_from an_step_from od_with_turn an_with_turn od_check_walked an_check_walked od_is_on_cycle an_is_on_cycle od_next_form an_next_form od_lead an_lead od_lead_in an_lead_in od_walk an_walk od__check_walk an__check_walk od_cycle_of an_cycle_of od_turns_of an_turns_of od__law_says an__law_says od__law_disc an__law_disc od__law_on_cycle an__law_on_cycle od__law_next an__law_next od__law_led an__law_led od__law_cycle an__law_cycle od__law_is_told_disc an__law_is_told_disc od__law_drawn_disc an__law_drawn_disc od__law_drawn_indefinite an__law_drawn_indefinite od__law_told an__law_told od__law_walk_holds an__law_walk_holds od__law_great_holds an__law_great_holds od_law an_law od_I an_I dd_R od_U od_1 od_2 : Option Addr} {sl__law_take sl__law_state sl_is_integer sl__law_whole sl_root sl__law_root sl_is_square sl_is_discriminant sl_is_row sl_is_large sl_told_discriminant sl_is_form sl_check_form sl__law_value sl__law_moved sl__law_product sl_check_items sl__law_matrix sl__law_strange sl__law_plain sl__law_no_word sl_check_indefinite sl__root_of sl_fits sl_step_from sl_with_turn sl_check_walked sl_is_on_cycle sl_next_form sl_lead sl_lead_in sl_walk sl__check_walk sl_cycle_of sl_turns_of sl__law_says sl__law_disc sl__law_on_cycle sl__law_next sl__law_led sl__law_cycle sl__law_is_told_disc sl__law_drawn_disc sl__law_drawn_indefinite sl__law_told sl__law_walk_holds sl__law_great_holds sl_law sl_I sl_U sl_1 sl_2 : Array (Option Value)} {oc__law_take kV__law_take dc__law_take pm__law_take cd__law_take ct__law_take oc__law_state kV__law_state dc__law_state pm__law_state cd__law_state ct__law_state oc_is_integer kV_is_integer dc_is_integer pm_is_integer cd_is_integer ct_is_integer oc__law_whole kV__law_whole dc__law_whole pm__law_whole cd__law_whole ct__law_whole oc_root kV_root dc_root pm_root cd_root ct_root oc__law_root kV__law_root dc__law_root pm__law_root cd__law_root ct__law_root oc_is_square kV_is_square dc_is_square pm_is_square cd_is_square ct_is_square oc_is_discriminant kV_is_discriminant dc_is_discriminant pm_is_discriminant cd_is_discriminant ct_is_discriminant oc_is_row kV_is_row dc_is_row pm_is_row cd_is_row ct_is_row oc_is_large kV_is_large dc_is_large pm_is_large cd_is_large ct_is_large oc_told_discriminant kV_told_discriminant dc_told_discriminant pm_told_discriminant cd_told_discriminant ct_told_discriminant oc_is_form kV_is_form dc_is_form pm_is_form cd_is_form ct_is_form oc_check_form kV_check_form dc_check_form pm_check_form cd_check_form ct_check_form oc__law_value kV__law_value dc__law_value pm__law_value cd__law_value ct__law_value oc__law_moved kV__law_moved dc__law_moved pm__law_moved cd__law_moved ct__law_moved oc__law_product kV__law_product dc__law_product pm__law_product cd__law_product ct__law_product oc_check_items kV_check_items dc_check_items pm_check_items cd_check_items ct_check_items oc__law_matrix kV__law_matrix dc__law_matrix pm__law_matrix cd__law_matrix ct__law_matrix oc__law_strange kV__law_strange dc__law_strange pm__law_strange cd__law_strange ct__law_strange oc__law_plain kV__law_plain dc__law_plain pm__law_plain cd__law_plain ct__law_plain oc__law_no_word kV__law_no_word dc__law_no_word pm__law_no_word cd__law_no_word ct__law_no_word oc_check_indefinite kV_check_indefinite dc_check_indefinite pm_check_indefinite cd_check_indefinite ct_check_indefinite oc__root_of kV__root_of dc__root_of pm__root_of cd__root_of ct__root_of oc_fits kV_fits dc_fits pm_fits cd_fits ct_fits oc_step_from kV_step_from dc_step_from pm_step_from cd_step_from ct_step_from oc_with_turn kV_with_turn dc_with_turn pm_with_turn cd_with_turn ct_with_turn oc_check_walked kV_check_walked dc_check_walked pm_check_walked cd_check_walked ct_check_walked oc_is_on_cycle kV_is_on_cycle dc_is_on_cycle pm_is_on_cycle cd_is_on_cycle ct_is_on_cycle oc_next_form kV_next_form dc_next_form pm_next_form cd_next_form ct_next_form oc_lead kV_lead dc_lead pm_lead cd_lead ct_lead oc_lead_in kV_lead_in dc_lead_in pm_lead_in cd_lead_in ct_lead_in oc_walk kV_walk dc_walk pm_walk cd_walk ct_walk oc__check_walk kV__check_walk dc__check_walk pm__check_walk cd__check_walk ct__check_walk oc_cycle_of kV_cycle_of dc_cycle_of pm_cycle_of cd_cycle_of ct_cycle_of oc_turns_of kV_turns_of dc_turns_of pm_turns_of cd_turns_of ct_turns_of oc__law_says kV__law_says dc__law_says pm__law_says cd__law_says ct__law_says oc__law_disc kV__law_disc dc__law_disc pm__law_disc cd__law_disc ct__law_disc oc__law_on_cycle kV__law_on_cycle dc__law_on_cycle pm__law_on_cycle cd__law_on_cycle ct__law_on_cycle oc__law_next kV__law_next dc__law_next pm__law_next cd__law_next ct__law_next oc__law_led kV__law_led dc__law_led pm__law_led cd__law_led ct__law_led oc__law_cycle kV__law_cycle dc__law_cycle pm__law_cycle cd__law_cycle ct__law_cycle oc__law_is_told_disc kV__law_is_told_disc dc__law_is_told_disc pm__law_is_told_disc cd__law_is_told_disc ct__law_is_told_disc oc__law_drawn_disc kV__law_drawn_disc dc__law_drawn_disc pm__law_drawn_disc cd__law_drawn_disc ct__law_drawn_disc oc__law_drawn_indefinite kV__law_drawn_indefinite dc__law_drawn_indefinite pm__law_drawn_indefinite cd__law_drawn_indefinite ct__law_drawn_indefinite oc__law_told kV__law_told dc__law_told pm__law_told cd__law_told ct__law_told oc__law_walk_holds kV__law_walk_holds dc__law_walk_holds pm__law_walk_holds cd__law_walk_holds ct__law_walk_holds oc__law_great_holds kV__law_great_holds dc__law_great_holds pm__law_great_holds cd__law_great_holds ct__law_great_holds oc_law kV_law dc_law pm_law cd_law ct_law oc_I kV_I dc_I pm_I cd_I ct_I : Value} {t_HALVED_BITS t_ITEM_BOUND t_LARGEST t_u1 t_u2 t_u3 t_u4 : Tok} {n_U n_1 n_2 : Nat} {nm_R q_R : Str} {bs_R bm_R sub_R : List Value} {sn_R : List Str} {ab_R : Bool} {col_R : Option Bool} {m0_R m1_R m2_R m3_R m5_R : Option Value}
    (a__law_take : PySem.W.nsIn K mainGlobals "_law_take" = some (some (.ref f__law_take)))
    (l__law_take : K.lookup f__law_take = some ⟨oc__law_take, od__law_take, .func (PySem.W.fnOf "_law_take" "_law_take" (defArgs s__law_take) (defBody s__law_take) (defScope s__law_take) .none kV__law_take dc__law_take pm__law_take an__law_take cd__law_take ct__law_take), sl__law_take⟩)
    (c__law_take : PySem.W.codeIn K cd__law_take "_law_take" = true)
    (k__law_take : PySem.W.keepIn K (.ref f__law_take) = true)
    (a__law_state : PySem.W.nsIn K mainGlobals "_law_state" = some (some (.ref f__law_state)))
    (l__law_state : K.lookup f__law_state = some ⟨oc__law_state, od__law_state, .func (PySem.W.fnOf "_law_state" "_law_state" (defArgs s__law_state) (defBody s__law_state) (defScope s__law_state) .none kV__law_state dc__law_state pm__law_state an__law_state cd__law_state ct__law_state), sl__law_state⟩)
    (c__law_state : PySem.W.codeIn K cd__law_state "_law_state" = true)
    (k__law_state : PySem.W.keepIn K (.ref f__law_state) = true)
    (a_is_integer : PySem.W.nsIn K mainGlobals "is_integer" = some (some (.ref f_is_integer)))
    (l_is_integer : K.lookup f_is_integer = some ⟨oc_is_integer, od_is_integer, .func (PySem.W.fnOf "is_integer" "is_integer" (defArgs s_is_integer) (defBody s_is_integer) (defScope s_is_integer) .none kV_is_integer dc_is_integer pm_is_integer an_is_integer cd_is_integer ct_is_integer), sl_is_integer⟩)
    (c_is_integer : PySem.W.codeIn K cd_is_integer "is_integer" = true)
    (k_is_integer : PySem.W.keepIn K (.ref f_is_integer) = true)
    (a__law_whole : PySem.W.nsIn K mainGlobals "_law_whole" = some (some (.ref f__law_whole)))
    (l__law_whole : K.lookup f__law_whole = some ⟨oc__law_whole, od__law_whole, .func (PySem.W.fnOf "_law_whole" "_law_whole" (defArgs s__law_whole) (defBody s__law_whole) (defScope s__law_whole) .none kV__law_whole dc__law_whole pm__law_whole an__law_whole cd__law_whole ct__law_whole), sl__law_whole⟩)
    (c__law_whole : PySem.W.codeIn K cd__law_whole "_law_whole" = true)
    (k__law_whole : PySem.W.keepIn K (.ref f__law_whole) = true)
    (a_root : PySem.W.nsIn K mainGlobals "root" = some (some (.ref f_root)))
    (l_root : K.lookup f_root = some ⟨oc_root, od_root, .func (PySem.W.fnOf "root" "root" (defArgs s_root) (defBody s_root) (defScope s_root) .none kV_root dc_root pm_root an_root cd_root ct_root), sl_root⟩)
    (c_root : PySem.W.codeIn K cd_root "root" = true)
    (k_root : PySem.W.keepIn K (.ref f_root) = true)
    (a__law_root : PySem.W.nsIn K mainGlobals "_law_root" = some (some (.ref f__law_root)))
    (l__law_root : K.lookup f__law_root = some ⟨oc__law_root, od__law_root, .func (PySem.W.fnOf "_law_root" "_law_root" (defArgs s__law_root) (defBody s__law_root) (defScope s__law_root) .none kV__law_root dc__law_root pm__law_root an__law_root cd__law_root ct__law_root), sl__law_root⟩)
    (c__law_root : PySem.W.codeIn K cd__law_root "_law_root" = true)
    (k__law_root : PySem.W.keepIn K (.ref f__law_root) = true)
    (a_is_square : PySem.W.nsIn K mainGlobals "is_square" = some (some (.ref f_is_square)))
    (l_is_square : K.lookup f_is_square = some ⟨oc_is_square, od_is_square, .func (PySem.W.fnOf "is_square" "is_square" (defArgs s_is_square) (defBody s_is_square) (defScope s_is_square) .none kV_is_square dc_is_square pm_is_square an_is_square cd_is_square ct_is_square), sl_is_square⟩)
    (c_is_square : PySem.W.codeIn K cd_is_square "is_square" = true)
    (k_is_square : PySem.W.keepIn K (.ref f_is_square) = true)
    (a_is_discriminant : PySem.W.nsIn K mainGlobals "is_discriminant" = some (some (.ref f_is_discriminant)))
    (l_is_discriminant : K.lookup f_is_discriminant = some ⟨oc_is_discriminant, od_is_discriminant, .func (PySem.W.fnOf "is_discriminant" "is_discriminant" (defArgs s_is_discriminant) (defBody s_is_discriminant) (defScope s_is_discriminant) .none kV_is_discriminant dc_is_discriminant pm_is_discriminant an_is_discriminant cd_is_discriminant ct_is_discriminant), sl_is_discriminant⟩)
    (c_is_discriminant : PySem.W.codeIn K cd_is_discriminant "is_discriminant" = true)
    (k_is_discriminant : PySem.W.keepIn K (.ref f_is_discriminant) = true)
    (a_is_row : PySem.W.nsIn K mainGlobals "is_row" = some (some (.ref f_is_row)))
    (l_is_row : K.lookup f_is_row = some ⟨oc_is_row, od_is_row, .func (PySem.W.fnOf "is_row" "is_row" (defArgs s_is_row) (defBody s_is_row) (defScope s_is_row) .none kV_is_row dc_is_row pm_is_row an_is_row cd_is_row ct_is_row), sl_is_row⟩)
    (c_is_row : PySem.W.codeIn K cd_is_row "is_row" = true)
    (k_is_row : PySem.W.keepIn K (.ref f_is_row) = true)
    (a_is_large : PySem.W.nsIn K mainGlobals "is_large" = some (some (.ref f_is_large)))
    (l_is_large : K.lookup f_is_large = some ⟨oc_is_large, od_is_large, .func (PySem.W.fnOf "is_large" "is_large" (defArgs s_is_large) (defBody s_is_large) (defScope s_is_large) .none kV_is_large dc_is_large pm_is_large an_is_large cd_is_large ct_is_large), sl_is_large⟩)
    (c_is_large : PySem.W.codeIn K cd_is_large "is_large" = true)
    (k_is_large : PySem.W.keepIn K (.ref f_is_large) = true)
    (a_told_discriminant : PySem.W.nsIn K mainGlobals "told_discriminant" = some (some (.ref f_told_discriminant)))
    (l_told_discriminant : K.lookup f_told_discriminant = some ⟨oc_told_discriminant, od_told_discriminant, .func (PySem.W.fnOf "told_discriminant" "told_discriminant" (defArgs s_told_discriminant) (defBody s_told_discriminant) (defScope s_told_discriminant) .none kV_told_discriminant dc_told_discriminant pm_told_discriminant an_told_discriminant cd_told_discriminant ct_told_discriminant), sl_told_discriminant⟩)
    (c_told_discriminant : PySem.W.codeIn K cd_told_discriminant "told_discriminant" = true)
    (k_told_discriminant : PySem.W.keepIn K (.ref f_told_discriminant) = true)
    (a_is_form : PySem.W.nsIn K mainGlobals "is_form" = some (some (.ref f_is_form)))
    (l_is_form : K.lookup f_is_form = some ⟨oc_is_form, od_is_form, .func (PySem.W.fnOf "is_form" "is_form" (defArgs s_is_form) (defBody s_is_form) (defScope s_is_form) .none kV_is_form dc_is_form pm_is_form an_is_form cd_is_form ct_is_form), sl_is_form⟩)
    (c_is_form : PySem.W.codeIn K cd_is_form "is_form" = true)
    (k_is_form : PySem.W.keepIn K (.ref f_is_form) = true)
    (a_check_form : PySem.W.nsIn K mainGlobals "check_form" = some (some (.ref f_check_form)))
    (l_check_form : K.lookup f_check_form = some ⟨oc_check_form, od_check_form, .func (PySem.W.fnOf "check_form" "check_form" (defArgs s_check_form) (defBody s_check_form) (defScope s_check_form) .none kV_check_form dc_check_form pm_check_form an_check_form cd_check_form ct_check_form), sl_check_form⟩)
    (c_check_form : PySem.W.codeIn K cd_check_form "check_form" = true)
    (k_check_form : PySem.W.keepIn K (.ref f_check_form) = true)
    (a__law_value : PySem.W.nsIn K mainGlobals "_law_value" = some (some (.ref f__law_value)))
    (l__law_value : K.lookup f__law_value = some ⟨oc__law_value, od__law_value, .func (PySem.W.fnOf "_law_value" "_law_value" (defArgs s__law_value) (defBody s__law_value) (defScope s__law_value) .none kV__law_value dc__law_value pm__law_value an__law_value cd__law_value ct__law_value), sl__law_value⟩)
    (c__law_value : PySem.W.codeIn K cd__law_value "_law_value" = true)
    (k__law_value : PySem.W.keepIn K (.ref f__law_value) = true)
    (a__law_moved : PySem.W.nsIn K mainGlobals "_law_moved" = some (some (.ref f__law_moved)))
    (l__law_moved : K.lookup f__law_moved = some ⟨oc__law_moved, od__law_moved, .func (PySem.W.fnOf "_law_moved" "_law_moved" (defArgs s__law_moved) (defBody s__law_moved) (defScope s__law_moved) .none kV__law_moved dc__law_moved pm__law_moved an__law_moved cd__law_moved ct__law_moved), sl__law_moved⟩)
    (c__law_moved : PySem.W.codeIn K cd__law_moved "_law_moved" = true)
    (k__law_moved : PySem.W.keepIn K (.ref f__law_moved) = true)
    (a__law_product : PySem.W.nsIn K mainGlobals "_law_product" = some (some (.ref f__law_product)))
    (l__law_product : K.lookup f__law_product = some ⟨oc__law_product, od__law_product, .func (PySem.W.fnOf "_law_product" "_law_product" (defArgs s__law_product) (defBody s__law_product) (defScope s__law_product) .none kV__law_product dc__law_product pm__law_product an__law_product cd__law_product ct__law_product), sl__law_product⟩)
    (c__law_product : PySem.W.codeIn K cd__law_product "_law_product" = true)
    (k__law_product : PySem.W.keepIn K (.ref f__law_product) = true)
    (a_check_items : PySem.W.nsIn K mainGlobals "check_items" = some (some (.ref f_check_items)))
    (l_check_items : K.lookup f_check_items = some ⟨oc_check_items, od_check_items, .func (PySem.W.fnOf "check_items" "check_items" (defArgs s_check_items) (defBody s_check_items) (defScope s_check_items) .none kV_check_items dc_check_items pm_check_items an_check_items cd_check_items ct_check_items), sl_check_items⟩)
    (c_check_items : PySem.W.codeIn K cd_check_items "check_items" = true)
    (k_check_items : PySem.W.keepIn K (.ref f_check_items) = true)
    (a__law_matrix : PySem.W.nsIn K mainGlobals "_law_matrix" = some (some (.ref f__law_matrix)))
    (l__law_matrix : K.lookup f__law_matrix = some ⟨oc__law_matrix, od__law_matrix, .func (PySem.W.fnOf "_law_matrix" "_law_matrix" (defArgs s__law_matrix) (defBody s__law_matrix) (defScope s__law_matrix) .none kV__law_matrix dc__law_matrix pm__law_matrix an__law_matrix cd__law_matrix ct__law_matrix), sl__law_matrix⟩)
    (c__law_matrix : PySem.W.codeIn K cd__law_matrix "_law_matrix" = true)
    (k__law_matrix : PySem.W.keepIn K (.ref f__law_matrix) = true)
    (a__law_strange : PySem.W.nsIn K mainGlobals "_law_strange" = some (some (.ref f__law_strange)))
    (l__law_strange : K.lookup f__law_strange = some ⟨oc__law_strange, od__law_strange, .func (PySem.W.fnOf "_law_strange" "_law_strange" (defArgs s__law_strange) (defBody s__law_strange) (defScope s__law_strange) .none kV__law_strange dc__law_strange pm__law_strange an__law_strange cd__law_strange ct__law_strange), sl__law_strange⟩)
    (c__law_strange : PySem.W.codeIn K cd__law_strange "_law_strange" = true)
    (k__law_strange : PySem.W.keepIn K (.ref f__law_strange) = true)
    (a__law_plain : PySem.W.nsIn K mainGlobals "_law_plain" = some (some (.ref f__law_plain)))
    (l__law_plain : K.lookup f__law_plain = some ⟨oc__law_plain, od__law_plain, .func (PySem.W.fnOf "_law_plain" "_law_plain" (defArgs s__law_plain) (defBody s__law_plain) (defScope s__law_plain) .none kV__law_plain dc__law_plain pm__law_plain an__law_plain cd__law_plain ct__law_plain), sl__law_plain⟩)
    (c__law_plain : PySem.W.codeIn K cd__law_plain "_law_plain" = true)
    (k__law_plain : PySem.W.keepIn K (.ref f__law_plain) = true)
    (a__law_no_word : PySem.W.nsIn K mainGlobals "_law_no_word" = some (some (.ref f__law_no_word)))
    (l__law_no_word : K.lookup f__law_no_word = some ⟨oc__law_no_word, od__law_no_word, .func (PySem.W.fnOf "_law_no_word" "_law_no_word" (defArgs s__law_no_word) (defBody s__law_no_word) (defScope s__law_no_word) .none kV__law_no_word dc__law_no_word pm__law_no_word an__law_no_word cd__law_no_word ct__law_no_word), sl__law_no_word⟩)
    (c__law_no_word : PySem.W.codeIn K cd__law_no_word "_law_no_word" = true)
    (k__law_no_word : PySem.W.keepIn K (.ref f__law_no_word) = true)
    (a_check_indefinite : PySem.W.nsIn K mainGlobals "check_indefinite" = some (some (.ref f_check_indefinite)))
    (l_check_indefinite : K.lookup f_check_indefinite = some ⟨oc_check_indefinite, od_check_indefinite, .func (PySem.W.fnOf "check_indefinite" "check_indefinite" (defArgs s_check_indefinite) (defBody s_check_indefinite) (defScope s_check_indefinite) .none kV_check_indefinite dc_check_indefinite pm_check_indefinite an_check_indefinite cd_check_indefinite ct_check_indefinite), sl_check_indefinite⟩)
    (c_check_indefinite : PySem.W.codeIn K cd_check_indefinite "check_indefinite" = true)
    (k_check_indefinite : PySem.W.keepIn K (.ref f_check_indefinite) = true)
    (a__root_of : PySem.W.nsIn K mainGlobals "_root_of" = some (some (.ref f__root_of)))
    (l__root_of : K.lookup f__root_of = some ⟨oc__root_of, od__root_of, .func (PySem.W.fnOf "_root_of" "_root_of" (defArgs s__root_of) (defBody s__root_of) (defScope s__root_of) .none kV__root_of dc__root_of pm__root_of an__root_of cd__root_of ct__root_of), sl__root_of⟩)
    (c__root_of : PySem.W.codeIn K cd__root_of "_root_of" = true)
    (k__root_of : PySem.W.keepIn K (.ref f__root_of) = true)
    (a_fits : PySem.W.nsIn K mainGlobals "fits" = some (some (.ref f_fits)))
    (l_fits : K.lookup f_fits = some ⟨oc_fits, od_fits, .func (PySem.W.fnOf "fits" "fits" (defArgs s_fits) (defBody s_fits) (defScope s_fits) .none kV_fits dc_fits pm_fits an_fits cd_fits ct_fits), sl_fits⟩)
    (c_fits : PySem.W.codeIn K cd_fits "fits" = true)
    (k_fits : PySem.W.keepIn K (.ref f_fits) = true)
    (a_step_from : PySem.W.nsIn K mainGlobals "step_from" = some (some (.ref f_step_from)))
    (l_step_from : K.lookup f_step_from = some ⟨oc_step_from, od_step_from, .func (PySem.W.fnOf "step_from" "step_from" (defArgs s_step_from) (defBody s_step_from) (defScope s_step_from) .none kV_step_from dc_step_from pm_step_from an_step_from cd_step_from ct_step_from), sl_step_from⟩)
    (c_step_from : PySem.W.codeIn K cd_step_from "step_from" = true)
    (k_step_from : PySem.W.keepIn K (.ref f_step_from) = true)
    (a_with_turn : PySem.W.nsIn K mainGlobals "with_turn" = some (some (.ref f_with_turn)))
    (l_with_turn : K.lookup f_with_turn = some ⟨oc_with_turn, od_with_turn, .func (PySem.W.fnOf "with_turn" "with_turn" (defArgs s_with_turn) (defBody s_with_turn) (defScope s_with_turn) .none kV_with_turn dc_with_turn pm_with_turn an_with_turn cd_with_turn ct_with_turn), sl_with_turn⟩)
    (c_with_turn : PySem.W.codeIn K cd_with_turn "with_turn" = true)
    (k_with_turn : PySem.W.keepIn K (.ref f_with_turn) = true)
    (a_check_walked : PySem.W.nsIn K mainGlobals "check_walked" = some (some (.ref f_check_walked)))
    (l_check_walked : K.lookup f_check_walked = some ⟨oc_check_walked, od_check_walked, .func (PySem.W.fnOf "check_walked" "check_walked" (defArgs s_check_walked) (defBody s_check_walked) (defScope s_check_walked) .none kV_check_walked dc_check_walked pm_check_walked an_check_walked cd_check_walked ct_check_walked), sl_check_walked⟩)
    (c_check_walked : PySem.W.codeIn K cd_check_walked "check_walked" = true)
    (k_check_walked : PySem.W.keepIn K (.ref f_check_walked) = true)
    (a_is_on_cycle : PySem.W.nsIn K mainGlobals "is_on_cycle" = some (some (.ref f_is_on_cycle)))
    (l_is_on_cycle : K.lookup f_is_on_cycle = some ⟨oc_is_on_cycle, od_is_on_cycle, .func (PySem.W.fnOf "is_on_cycle" "is_on_cycle" (defArgs s_is_on_cycle) (defBody s_is_on_cycle) (defScope s_is_on_cycle) .none kV_is_on_cycle dc_is_on_cycle pm_is_on_cycle an_is_on_cycle cd_is_on_cycle ct_is_on_cycle), sl_is_on_cycle⟩)
    (c_is_on_cycle : PySem.W.codeIn K cd_is_on_cycle "is_on_cycle" = true)
    (k_is_on_cycle : PySem.W.keepIn K (.ref f_is_on_cycle) = true)
    (a_next_form : PySem.W.nsIn K mainGlobals "next_form" = some (some (.ref f_next_form)))
    (l_next_form : K.lookup f_next_form = some ⟨oc_next_form, od_next_form, .func (PySem.W.fnOf "next_form" "next_form" (defArgs s_next_form) (defBody s_next_form) (defScope s_next_form) .none kV_next_form dc_next_form pm_next_form an_next_form cd_next_form ct_next_form), sl_next_form⟩)
    (c_next_form : PySem.W.codeIn K cd_next_form "next_form" = true)
    (k_next_form : PySem.W.keepIn K (.ref f_next_form) = true)
    (a_lead : PySem.W.nsIn K mainGlobals "lead" = some (some (.ref f_lead)))
    (l_lead : K.lookup f_lead = some ⟨oc_lead, od_lead, .func (PySem.W.fnOf "lead" "lead" (defArgs s_lead) (defBody s_lead) (defScope s_lead) .none kV_lead dc_lead pm_lead an_lead cd_lead ct_lead), sl_lead⟩)
    (c_lead : PySem.W.codeIn K cd_lead "lead" = true)
    (k_lead : PySem.W.keepIn K (.ref f_lead) = true)
    (a_lead_in : PySem.W.nsIn K mainGlobals "lead_in" = some (some (.ref f_lead_in)))
    (l_lead_in : K.lookup f_lead_in = some ⟨oc_lead_in, od_lead_in, .func (PySem.W.fnOf "lead_in" "lead_in" (defArgs s_lead_in) (defBody s_lead_in) (defScope s_lead_in) .none kV_lead_in dc_lead_in pm_lead_in an_lead_in cd_lead_in ct_lead_in), sl_lead_in⟩)
    (c_lead_in : PySem.W.codeIn K cd_lead_in "lead_in" = true)
    (k_lead_in : PySem.W.keepIn K (.ref f_lead_in) = true)
    (a_walk : PySem.W.nsIn K mainGlobals "walk" = some (some (.ref f_walk)))
    (l_walk : K.lookup f_walk = some ⟨oc_walk, od_walk, .func (PySem.W.fnOf "walk" "walk" (defArgs s_walk) (defBody s_walk) (defScope s_walk) .none kV_walk dc_walk pm_walk an_walk cd_walk ct_walk), sl_walk⟩)
    (c_walk : PySem.W.codeIn K cd_walk "walk" = true)
    (k_walk : PySem.W.keepIn K (.ref f_walk) = true)
    (a__check_walk : PySem.W.nsIn K mainGlobals "_check_walk" = some (some (.ref f__check_walk)))
    (l__check_walk : K.lookup f__check_walk = some ⟨oc__check_walk, od__check_walk, .func (PySem.W.fnOf "_check_walk" "_check_walk" (defArgs s__check_walk) (defBody s__check_walk) (defScope s__check_walk) .none kV__check_walk dc__check_walk pm__check_walk an__check_walk cd__check_walk ct__check_walk), sl__check_walk⟩)
    (c__check_walk : PySem.W.codeIn K cd__check_walk "_check_walk" = true)
    (k__check_walk : PySem.W.keepIn K (.ref f__check_walk) = true)
    (a_cycle_of : PySem.W.nsIn K mainGlobals "cycle_of" = some (some (.ref f_cycle_of)))
    (l_cycle_of : K.lookup f_cycle_of = some ⟨oc_cycle_of, od_cycle_of, .func (PySem.W.fnOf "cycle_of" "cycle_of" (defArgs s_cycle_of) (defBody s_cycle_of) (defScope s_cycle_of) .none kV_cycle_of dc_cycle_of pm_cycle_of an_cycle_of cd_cycle_of ct_cycle_of), sl_cycle_of⟩)
    (c_cycle_of : PySem.W.codeIn K cd_cycle_of "cycle_of" = true)
    (k_cycle_of : PySem.W.keepIn K (.ref f_cycle_of) = true)
    (a_turns_of : PySem.W.nsIn K mainGlobals "turns_of" = some (some (.ref f_turns_of)))
    (l_turns_of : K.lookup f_turns_of = some ⟨oc_turns_of, od_turns_of, .func (PySem.W.fnOf "turns_of" "turns_of" (defArgs s_turns_of) (defBody s_turns_of) (defScope s_turns_of) .none kV_turns_of dc_turns_of pm_turns_of an_turns_of cd_turns_of ct_turns_of), sl_turns_of⟩)
    (c_turns_of : PySem.W.codeIn K cd_turns_of "turns_of" = true)
    (k_turns_of : PySem.W.keepIn K (.ref f_turns_of) = true)
    (a__law_says : PySem.W.nsIn K mainGlobals "_law_says" = some (some (.ref f__law_says)))
    (l__law_says : K.lookup f__law_says = some ⟨oc__law_says, od__law_says, .func (PySem.W.fnOf "_law_says" "_law_says" (defArgs s__law_says) (defBody s__law_says) (defScope s__law_says) .none kV__law_says dc__law_says pm__law_says an__law_says cd__law_says ct__law_says), sl__law_says⟩)
    (c__law_says : PySem.W.codeIn K cd__law_says "_law_says" = true)
    (k__law_says : PySem.W.keepIn K (.ref f__law_says) = true)
    (a__law_disc : PySem.W.nsIn K mainGlobals "_law_disc" = some (some (.ref f__law_disc)))
    (l__law_disc : K.lookup f__law_disc = some ⟨oc__law_disc, od__law_disc, .func (PySem.W.fnOf "_law_disc" "_law_disc" (defArgs s__law_disc) (defBody s__law_disc) (defScope s__law_disc) .none kV__law_disc dc__law_disc pm__law_disc an__law_disc cd__law_disc ct__law_disc), sl__law_disc⟩)
    (c__law_disc : PySem.W.codeIn K cd__law_disc "_law_disc" = true)
    (k__law_disc : PySem.W.keepIn K (.ref f__law_disc) = true)
    (a__law_on_cycle : PySem.W.nsIn K mainGlobals "_law_on_cycle" = some (some (.ref f__law_on_cycle)))
    (l__law_on_cycle : K.lookup f__law_on_cycle = some ⟨oc__law_on_cycle, od__law_on_cycle, .func (PySem.W.fnOf "_law_on_cycle" "_law_on_cycle" (defArgs s__law_on_cycle) (defBody s__law_on_cycle) (defScope s__law_on_cycle) .none kV__law_on_cycle dc__law_on_cycle pm__law_on_cycle an__law_on_cycle cd__law_on_cycle ct__law_on_cycle), sl__law_on_cycle⟩)
    (c__law_on_cycle : PySem.W.codeIn K cd__law_on_cycle "_law_on_cycle" = true)
    (k__law_on_cycle : PySem.W.keepIn K (.ref f__law_on_cycle) = true)
    (a__law_next : PySem.W.nsIn K mainGlobals "_law_next" = some (some (.ref f__law_next)))
    (l__law_next : K.lookup f__law_next = some ⟨oc__law_next, od__law_next, .func (PySem.W.fnOf "_law_next" "_law_next" (defArgs s__law_next) (defBody s__law_next) (defScope s__law_next) .none kV__law_next dc__law_next pm__law_next an__law_next cd__law_next ct__law_next), sl__law_next⟩)
    (c__law_next : PySem.W.codeIn K cd__law_next "_law_next" = true)
    (k__law_next : PySem.W.keepIn K (.ref f__law_next) = true)
    (a__law_led : PySem.W.nsIn K mainGlobals "_law_led" = some (some (.ref f__law_led)))
    (l__law_led : K.lookup f__law_led = some ⟨oc__law_led, od__law_led, .func (PySem.W.fnOf "_law_led" "_law_led" (defArgs s__law_led) (defBody s__law_led) (defScope s__law_led) .none kV__law_led dc__law_led pm__law_led an__law_led cd__law_led ct__law_led), sl__law_led⟩)
    (c__law_led : PySem.W.codeIn K cd__law_led "_law_led" = true)
    (k__law_led : PySem.W.keepIn K (.ref f__law_led) = true)
    (a__law_cycle : PySem.W.nsIn K mainGlobals "_law_cycle" = some (some (.ref f__law_cycle)))
    (l__law_cycle : K.lookup f__law_cycle = some ⟨oc__law_cycle, od__law_cycle, .func (PySem.W.fnOf "_law_cycle" "_law_cycle" (defArgs s__law_cycle) (defBody s__law_cycle) (defScope s__law_cycle) .none kV__law_cycle dc__law_cycle pm__law_cycle an__law_cycle cd__law_cycle ct__law_cycle), sl__law_cycle⟩)
    (c__law_cycle : PySem.W.codeIn K cd__law_cycle "_law_cycle" = true)
    (k__law_cycle : PySem.W.keepIn K (.ref f__law_cycle) = true)
    (a__law_is_told_disc : PySem.W.nsIn K mainGlobals "_law_is_told_disc" = some (some (.ref f__law_is_told_disc)))
    (l__law_is_told_disc : K.lookup f__law_is_told_disc = some ⟨oc__law_is_told_disc, od__law_is_told_disc, .func (PySem.W.fnOf "_law_is_told_disc" "_law_is_told_disc" (defArgs s__law_is_told_disc) (defBody s__law_is_told_disc) (defScope s__law_is_told_disc) .none kV__law_is_told_disc dc__law_is_told_disc pm__law_is_told_disc an__law_is_told_disc cd__law_is_told_disc ct__law_is_told_disc), sl__law_is_told_disc⟩)
    (c__law_is_told_disc : PySem.W.codeIn K cd__law_is_told_disc "_law_is_told_disc" = true)
    (k__law_is_told_disc : PySem.W.keepIn K (.ref f__law_is_told_disc) = true)
    (a__law_drawn_disc : PySem.W.nsIn K mainGlobals "_law_drawn_disc" = some (some (.ref f__law_drawn_disc)))
    (l__law_drawn_disc : K.lookup f__law_drawn_disc = some ⟨oc__law_drawn_disc, od__law_drawn_disc, .func (PySem.W.fnOf "_law_drawn_disc" "_law_drawn_disc" (defArgs s__law_drawn_disc) (defBody s__law_drawn_disc) (defScope s__law_drawn_disc) .none kV__law_drawn_disc dc__law_drawn_disc pm__law_drawn_disc an__law_drawn_disc cd__law_drawn_disc ct__law_drawn_disc), sl__law_drawn_disc⟩)
    (c__law_drawn_disc : PySem.W.codeIn K cd__law_drawn_disc "_law_drawn_disc" = true)
    (k__law_drawn_disc : PySem.W.keepIn K (.ref f__law_drawn_disc) = true)
    (a__law_drawn_indefinite : PySem.W.nsIn K mainGlobals "_law_drawn_indefinite" = some (some (.ref f__law_drawn_indefinite)))
    (l__law_drawn_indefinite : K.lookup f__law_drawn_indefinite = some ⟨oc__law_drawn_indefinite, od__law_drawn_indefinite, .func (PySem.W.fnOf "_law_drawn_indefinite" "_law_drawn_indefinite" (defArgs s__law_drawn_indefinite) (defBody s__law_drawn_indefinite) (defScope s__law_drawn_indefinite) .none kV__law_drawn_indefinite dc__law_drawn_indefinite pm__law_drawn_indefinite an__law_drawn_indefinite cd__law_drawn_indefinite ct__law_drawn_indefinite), sl__law_drawn_indefinite⟩)
    (c__law_drawn_indefinite : PySem.W.codeIn K cd__law_drawn_indefinite "_law_drawn_indefinite" = true)
    (k__law_drawn_indefinite : PySem.W.keepIn K (.ref f__law_drawn_indefinite) = true)
    (a__law_told : PySem.W.nsIn K mainGlobals "_law_told" = some (some (.ref f__law_told)))
    (l__law_told : K.lookup f__law_told = some ⟨oc__law_told, od__law_told, .func (PySem.W.fnOf "_law_told" "_law_told" (defArgs s__law_told) (defBody s__law_told) (defScope s__law_told) .none kV__law_told dc__law_told pm__law_told an__law_told cd__law_told ct__law_told), sl__law_told⟩)
    (c__law_told : PySem.W.codeIn K cd__law_told "_law_told" = true)
    (k__law_told : PySem.W.keepIn K (.ref f__law_told) = true)
    (a__law_walk_holds : PySem.W.nsIn K mainGlobals "_law_walk_holds" = some (some (.ref f__law_walk_holds)))
    (l__law_walk_holds : K.lookup f__law_walk_holds = some ⟨oc__law_walk_holds, od__law_walk_holds, .func (PySem.W.fnOf "_law_walk_holds" "_law_walk_holds" (defArgs s__law_walk_holds) (defBody s__law_walk_holds) (defScope s__law_walk_holds) .none kV__law_walk_holds dc__law_walk_holds pm__law_walk_holds an__law_walk_holds cd__law_walk_holds ct__law_walk_holds), sl__law_walk_holds⟩)
    (c__law_walk_holds : PySem.W.codeIn K cd__law_walk_holds "_law_walk_holds" = true)
    (k__law_walk_holds : PySem.W.keepIn K (.ref f__law_walk_holds) = true)
    (a__law_great_holds : PySem.W.nsIn K mainGlobals "_law_great_holds" = some (some (.ref f__law_great_holds)))
    (l__law_great_holds : K.lookup f__law_great_holds = some ⟨oc__law_great_holds, od__law_great_holds, .func (PySem.W.fnOf "_law_great_holds" "_law_great_holds" (defArgs s__law_great_holds) (defBody s__law_great_holds) (defScope s__law_great_holds) .none kV__law_great_holds dc__law_great_holds pm__law_great_holds an__law_great_holds cd__law_great_holds ct__law_great_holds), sl__law_great_holds⟩)
    (c__law_great_holds : PySem.W.codeIn K cd__law_great_holds "_law_great_holds" = true)
    (k__law_great_holds : PySem.W.keepIn K (.ref f__law_great_holds) = true)
    (a_law : PySem.W.nsIn K mainGlobals "law" = some (some (.ref f_law)))
    (l_law : K.lookup f_law = some ⟨oc_law, od_law, .func (PySem.W.fnOf "law" "law" (defArgs s_law) (defBody s_law) (defScope s_law) .none kV_law dc_law pm_law an_law cd_law ct_law), sl_law⟩)
    (c_law : PySem.W.codeIn K cd_law "law" = true)
    (k_law : PySem.W.keepIn K (.ref f_law) = true)
    (z_abs : PySem.W.nsIn K mainGlobals "abs" = some none)
    (z_int : PySem.W.nsIn K mainGlobals "int" = some none)
    (z_bool : PySem.W.nsIn K mainGlobals "bool" = some none)
    (z_str : PySem.W.nsIn K mainGlobals "str" = some none)
    (z_tuple : PySem.W.nsIn K mainGlobals "tuple" = some none)
    (z_max : PySem.W.nsIn K mainGlobals "max" = some none)
    (z_range : PySem.W.nsIn K mainGlobals "range" = some none)
    (z_isinstance : PySem.W.nsIn K mainGlobals "isinstance" = some none)
    (z_len : PySem.W.nsIn K mainGlobals "len" = some none)
    (z_all : PySem.W.nsIn K mainGlobals "all" = some none)
    (z_any : PySem.W.nsIn K mainGlobals "any" = some none)
    (z_isqrt : PySem.W.nsIn K mainGlobals "isqrt" = some (some (.builtin "math.isqrt")))
    (v_HALVED_BITS : PySem.W.nsIn K mainGlobals "HALVED_BITS" = some (some (.int 32 t_HALVED_BITS)))
    (v_ITEM_BOUND : PySem.W.nsIn K mainGlobals "ITEM_BOUND" = some (some (.int 1000000000000000000000000000000000000000000000000000000000000 t_ITEM_BOUND)))
    (v_LARGEST : PySem.W.nsIn K mainGlobals "LARGEST" = some (some (.int 1000000 t_LARGEST)))
    (aM : PySem.W.nsIn K mainGlobals "Malformed" = some (some (.ref CM)))
    (xM : PySem.W.excIn K CM veB "ValueError.__new__" = true)
    (kM : PySem.W.keepIn K (.ref CM) = true)
    (bM : PySem.W.subIn K (.ref CM) (.type "BaseException") = some true)
    (tM : PySem.W.typeIn K (.ref CM) = some (.type "type"))
    (iM : PySem.W.isClsIn K CM = true)
    (mM : PySem.W.subIn K (.ref CM) (.ref CM) = some true)
    (aR : PySem.W.nsIn K mainGlobals "Refused" = some (some (.ref CR)))
    (xR : K.lookup CR = some (excClassObj nm_R q_R CR NR bs_R bm_R true sn_R sub_R ab_R col_R dd_R m0_R m1_R m2_R m3_R m5_R "ValueError.__new__"))
    (vR : PySem.HandSPX.refsVE bm_R = true)
    (sR : PySem.W.findIn K (.ref CR) "__setattr__" = some (some (.builtin "object.__setattr__")))
    (gR : PySem.W.findIn K (.ref CR) "__getattribute__" = some (some (.builtin "BaseException.__getattribute__")))
    (hR : PySem.W.findIn K (.ref CR) "__getattr__" = some none)
    (nR : PySem.W.findIn K (.ref CR) "reason" = some none)
    (iR : PySem.W.findIn K (.ref CR) "__init__" = some (some (.ref fI)))
    (tI : PySem.W.typeIn K (.ref fI) = some (.type "function"))
    (lI : K.lookup fI = some ⟨oc_I, od_I, .func (PySem.W.fnOf "__init__" "Refused.__init__" (defArgs s_RI) (defBody s_RI) (defScope s_RI) .none kV_I dc_I pm_I an_I cd_I ct_I), sl_I⟩)
    (cI : PySem.W.codeIn K cd_I "Refused.__init__" = true)
    (kI : PySem.W.keepIn K (.ref fI) = true)
    (kR : PySem.W.keepIn K (.ref CR) = true)
    (bR : PySem.W.subIn K (.ref CR) (.type "BaseException") = some true)
    (tR : PySem.W.typeIn K (.ref CR) = some (.type "type"))
    (dR : PySem.W.hasDictIn K CR = true)
    (cR : PySem.W.isClsIn K CR = true)
    (rm : PySem.W.subIn K (.ref CR) (.ref CM) = some false)
    (rr : PySem.W.subIn K (.ref CR) (.ref CR) = some true)
    (uU : PySem.W.nsIn K mainGlobals "UNIT_MATRIX" = some (some (.ref aU)))
    (lU : K.lookup aU = some ⟨.type "tuple", od_U, .seq #[.ref a1, .ref a2] n_U, sl_U⟩)
    (l1 : K.lookup a1 = some ⟨.type "tuple", od_1, .seq #[.int 1 t_u1, .int 0 t_u2] n_1, sl_1⟩)
    (l2 : K.lookup a2 = some ⟨.type "tuple", od_2, .seq #[.int 0 t_u3, .int 1 t_u4] n_2, sl_2⟩) :
    ∃ fd : FuncData, (∀ (s : Shared) (v : Value), BindsTo s fd ⟨[v], []⟩ [("script", v)]) ∧ ∀ base : Heap, K.In base → base.Ns mainGlobals mg → FnOk l.prog w K mg base CX0 11 fa fd ["script"] (spLaw K) := by
  have e := hfa.symm.trans (PySem.W.mg_of X G a_law)
  cases e
  have B : Bl mg := { abs := PySem.W.mg_none_of X G z_abs, int := PySem.W.mg_none_of X G z_int, bool := PySem.W.mg_none_of X G z_bool, str := PySem.W.mg_none_of X G z_str, tuple := PySem.W.mg_none_of X G z_tuple, max := PySem.W.mg_none_of X G z_max, range := PySem.W.mg_none_of X G z_range, isinstance := PySem.W.mg_none_of X G z_isinstance, len := PySem.W.mg_none_of X G z_len, all := PySem.W.mg_none_of X G z_all, any := PySem.W.mg_none_of X G z_any, isqrt := PySem.W.mg_of X G z_isqrt, c_HALVED_BITS := ⟨_, PySem.W.mg_of X G v_HALVED_BITS⟩, c_ITEM_BOUND := ⟨_, PySem.W.mg_of X G v_ITEM_BOUND⟩, c_LARGEST := ⟨_, PySem.W.mg_of X G v_LARGEST⟩ }
  have d__law_take : Dn K mg "_law_take" s__law_take ["state", "m"] := dn_mk X G a__law_take l__law_take c__law_take k__law_take fun _ _ _ _ _ _ us hl => match us, hl with | [_, _], _ => rfl
  have d__law_state : Dn K mg "_law_state" s__law_state ["script"] := dn_mk X G a__law_state l__law_state c__law_state k__law_state fun _ _ _ _ _ _ us hl => match us, hl with | [_], _ => rfl
  have d_is_integer : Dn K mg "is_integer" s_is_integer ["value"] := dn_mk X G a_is_integer l_is_integer c_is_integer k_is_integer fun _ _ _ _ _ _ us hl => match us, hl with | [_], _ => rfl
  have d__law_whole : Dn K mg "_law_whole" s__law_whole ["value"] := dn_mk X G a__law_whole l__law_whole c__law_whole k__law_whole fun _ _ _ _ _ _ us hl => match us, hl with | [_], _ => rfl
  have d_root : Dn K mg "root" s_root ["n", "k"] := dn_mk X G a_root l_root c_root k_root fun _ _ _ _ _ _ us hl => match us, hl with | [_, _], _ => rfl
  have d__law_root : Dn K mg "_law_root" s__law_root ["n"] := dn_mk X G a__law_root l__law_root c__law_root k__law_root fun _ _ _ _ _ _ us hl => match us, hl with | [_], _ => rfl
  have d_is_square : Dn K mg "is_square" s_is_square ["n"] := dn_mk X G a_is_square l_is_square c_is_square k_is_square fun _ _ _ _ _ _ us hl => match us, hl with | [_], _ => rfl
  have d_is_discriminant : Dn K mg "is_discriminant" s_is_discriminant ["value"] := dn_mk X G a_is_discriminant l_is_discriminant c_is_discriminant k_is_discriminant fun _ _ _ _ _ _ us hl => match us, hl with | [_], _ => rfl
  have d_is_row : Dn K mg "is_row" s_is_row ["value", "n"] := dn_mk X G a_is_row l_is_row c_is_row k_is_row fun _ _ _ _ _ _ us hl => match us, hl with | [_, _], _ => rfl
  have d_is_large : Dn K mg "is_large" s_is_large ["f"] := dn_mk X G a_is_large l_is_large c_is_large k_is_large fun _ _ _ _ _ _ us hl => match us, hl with | [_], _ => rfl
  have d_told_discriminant : Dn K mg "told_discriminant" s_told_discriminant ["f"] := dn_mk X G a_told_discriminant l_told_discriminant c_told_discriminant k_told_discriminant fun _ _ _ _ _ _ us hl => match us, hl with | [_], _ => rfl
  have d_is_form : Dn K mg "is_form" s_is_form ["value"] := dn_mk X G a_is_form l_is_form c_is_form k_is_form fun _ _ _ _ _ _ us hl => match us, hl with | [_], _ => rfl
  have d_check_form : Dn K mg "check_form" s_check_form ["f"] := dn_mk X G a_check_form l_check_form c_check_form k_check_form fun _ _ _ _ _ _ us hl => match us, hl with | [_], _ => rfl
  have d__law_value : Dn K mg "_law_value" s__law_value ["f", "x", "y"] := dn_mk X G a__law_value l__law_value c__law_value k__law_value fun _ _ _ _ _ _ us hl => match us, hl with | [_, _, _], _ => rfl
  have d__law_moved : Dn K mg "_law_moved" s__law_moved ["f", "m"] := dn_mk X G a__law_moved l__law_moved c__law_moved k__law_moved fun _ _ _ _ _ _ us hl => match us, hl with | [_, _], _ => rfl
  have d__law_product : Dn K mg "_law_product" s__law_product ["m", "n"] := dn_mk X G a__law_product l__law_product c__law_product k__law_product fun _ _ _ _ _ _ us hl => match us, hl with | [_, _], _ => rfl
  have d_check_items : Dn K mg "check_items" s_check_items ["f"] := dn_mk X G a_check_items l_check_items c_check_items k_check_items fun _ _ _ _ _ _ us hl => match us, hl with | [_], _ => rfl
  have d__law_matrix : Dn K mg "_law_matrix" s__law_matrix ["state", "turns", "most"] := dn_mk X G a__law_matrix l__law_matrix c__law_matrix k__law_matrix fun _ _ _ _ _ _ us hl => match us, hl with | [_, _, _], _ => rfl
  have d__law_strange : Dn K mg "_law_strange" s__law_strange ["state"] := dn_mk X G a__law_strange l__law_strange c__law_strange k__law_strange fun _ _ _ _ _ _ us hl => match us, hl with | [_], _ => rfl
  have d__law_plain : Dn K mg "_law_plain" s__law_plain ["value"] := dn_mk X G a__law_plain l__law_plain c__law_plain k__law_plain fun _ _ _ _ _ _ us hl => match us, hl with | [_], _ => rfl
  have d__law_no_word : Dn K mg "_law_no_word" s__law_no_word ["value"] := dn_mk X G a__law_no_word l__law_no_word c__law_no_word k__law_no_word fun _ _ _ _ _ _ us hl => match us, hl with | [_], _ => rfl
  have d_check_indefinite : Dn K mg "check_indefinite" s_check_indefinite ["f"] := dn_mk X G a_check_indefinite l_check_indefinite c_check_indefinite k_check_indefinite fun _ _ _ _ _ _ us hl => match us, hl with | [_], _ => rfl
  have d__root_of : Dn K mg "_root_of" s__root_of ["f"] := dn_mk X G a__root_of l__root_of c__root_of k__root_of fun _ _ _ _ _ _ us hl => match us, hl with | [_], _ => rfl
  have d_fits : Dn K mg "fits" s_fits ["f", "s"] := dn_mk X G a_fits l_fits c_fits k_fits fun _ _ _ _ _ _ us hl => match us, hl with | [_, _], _ => rfl
  have d_step_from : Dn K mg "step_from" s_step_from ["f", "s"] := dn_mk X G a_step_from l_step_from c_step_from k_step_from fun _ _ _ _ _ _ us hl => match us, hl with | [_, _], _ => rfl
  have d_with_turn : Dn K mg "with_turn" s_with_turn ["m", "t"] := dn_mk X G a_with_turn l_with_turn c_with_turn k_with_turn fun _ _ _ _ _ _ us hl => match us, hl with | [_, _], _ => rfl
  have d_check_walked : Dn K mg "check_walked" s_check_walked ["D"] := dn_mk X G a_check_walked l_check_walked c_check_walked k_check_walked fun _ _ _ _ _ _ us hl => match us, hl with | [_], _ => rfl
  have d_is_on_cycle : Dn K mg "is_on_cycle" s_is_on_cycle ["f"] := dn_mk X G a_is_on_cycle l_is_on_cycle c_is_on_cycle k_is_on_cycle fun _ _ _ _ _ _ us hl => match us, hl with | [_], _ => rfl
  have d_next_form : Dn K mg "next_form" s_next_form ["f"] := dn_mk X G a_next_form l_next_form c_next_form k_next_form fun _ _ _ _ _ _ us hl => match us, hl with | [_], _ => rfl
  have d_lead : Dn K mg "lead" s_lead ["f"] := dn_mk X G a_lead l_lead c_lead k_lead fun _ _ _ _ _ _ us hl => match us, hl with | [_], _ => rfl
  have d_lead_in : Dn K mg "lead_in" s_lead_in ["f"] := dn_mk X G a_lead_in l_lead_in c_lead_in k_lead_in fun _ _ _ _ _ _ us hl => match us, hl with | [_], _ => rfl
  have d_walk : Dn K mg "walk" s_walk ["f"] := dn_mk X G a_walk l_walk c_walk k_walk fun _ _ _ _ _ _ us hl => match us, hl with | [_], _ => rfl
  have d__check_walk : Dn K mg "_check_walk" s__check_walk ["f"] := dn_mk X G a__check_walk l__check_walk c__check_walk k__check_walk fun _ _ _ _ _ _ us hl => match us, hl with | [_], _ => rfl
  have d_cycle_of : Dn K mg "cycle_of" s_cycle_of ["f"] := dn_mk X G a_cycle_of l_cycle_of c_cycle_of k_cycle_of fun _ _ _ _ _ _ us hl => match us, hl with | [_], _ => rfl
  have d_turns_of : Dn K mg "turns_of" s_turns_of ["f"] := dn_mk X G a_turns_of l_turns_of c_turns_of k_turns_of fun _ _ _ _ _ _ us hl => match us, hl with | [_], _ => rfl
  have d__law_says : Dn K mg "_law_says" s__law_says ["value", "due"] := dn_mk X G a__law_says l__law_says c__law_says k__law_says fun _ _ _ _ _ _ us hl => match us, hl with | [_, _], _ => rfl
  have d__law_disc : Dn K mg "_law_disc" s__law_disc ["f"] := dn_mk X G a__law_disc l__law_disc c__law_disc k__law_disc fun _ _ _ _ _ _ us hl => match us, hl with | [_], _ => rfl
  have d__law_on_cycle : Dn K mg "_law_on_cycle" s__law_on_cycle ["f", "s"] := dn_mk X G a__law_on_cycle l__law_on_cycle c__law_on_cycle k__law_on_cycle fun _ _ _ _ _ _ us hl => match us, hl with | [_, _], _ => rfl
  have d__law_next : Dn K mg "_law_next" s__law_next ["f", "s"] := dn_mk X G a__law_next l__law_next c__law_next k__law_next fun _ _ _ _ _ _ us hl => match us, hl with | [_, _], _ => rfl
  have d__law_led : Dn K mg "_law_led" s__law_led ["f", "s"] := dn_mk X G a__law_led l__law_led c__law_led k__law_led fun _ _ _ _ _ _ us hl => match us, hl with | [_, _], _ => rfl
  have d__law_cycle : Dn K mg "_law_cycle" s__law_cycle ["f", "s"] := dn_mk X G a__law_cycle l__law_cycle c__law_cycle k__law_cycle fun _ _ _ _ _ _ us hl => match us, hl with | [_, _], _ => rfl
  have d__law_is_told_disc : Dn K mg "_law_is_told_disc" s__law_is_told_disc ["d"] := dn_mk X G a__law_is_told_disc l__law_is_told_disc c__law_is_told_disc k__law_is_told_disc fun _ _ _ _ _ _ us hl => match us, hl with | [_], _ => rfl
  have d__law_drawn_disc : Dn K mg "_law_drawn_disc" s__law_drawn_disc ["state", "most", "sign"] := dn_mk X G a__law_drawn_disc l__law_drawn_disc c__law_drawn_disc k__law_drawn_disc fun _ _ _ _ _ _ us hl => match us, hl with | [_, _, _], _ => rfl
  have d__law_drawn_indefinite : Dn K mg "_law_drawn_indefinite" s__law_drawn_indefinite ["state", "most"] := dn_mk X G a__law_drawn_indefinite l__law_drawn_indefinite c__law_drawn_indefinite k__law_drawn_indefinite fun _ _ _ _ _ _ us hl => match us, hl with | [_, _], _ => rfl
  have d__law_told : Dn K mg "_law_told" s__law_told ["which", "f"] := dn_mk X G a__law_told l__law_told c__law_told k__law_told fun _ _ _ _ _ _ us hl => match us, hl with | [_, _], _ => rfl
  have d__law_walk_holds : Dn K mg "_law_walk_holds" s__law_walk_holds ["f", "s"] := dn_mk X G a__law_walk_holds l__law_walk_holds c__law_walk_holds k__law_walk_holds fun _ _ _ _ _ _ us hl => match us, hl with | [_, _], _ => rfl
  have d__law_great_holds : Dn K mg "_law_great_holds" s__law_great_holds ["state"] := dn_mk X G a__law_great_holds l__law_great_holds c__law_great_holds k__law_great_holds fun _ _ _ _ _ _ us hl => match us, hl with | [_], _ => rfl
  have d_law : Dn K mg "law" s_law ["script"] := dn_mk X G a_law l_law c_law k_law fun _ _ _ _ _ _ us hl => match us, hl with | [_], _ => rfl
  have hM : PySem.W.exmOne K (.ref CM) (.ref CM) = some true := exm_b bM iM tM mM
  have mr : PySem.W.exmOne K (.ref CR) (.ref CM) = some false := exm_b bM iM tM rm
  have hR2 : PySem.W.exmOne K (.ref CR) (.ref CR) = some true := exm_b bR cR tR rr
  refine ⟨PySem.W.fnOf "law" "law" (defArgs s_law) (defBody s_law) (defScope s_law) .none kV_law dc_law pm_law an_law cd_law ct_law, fun s v => .of_eq rfl, fun base _ _ => ?_⟩
  have FI := fun_mk (st := s_RI) lI cI kI
  have bI := FI.binds (ps := ["self", "reason"]) fun _ _ _ _ _ _ us hl => match us, hl with | [_, _], _ => rfl
  have e_E : ErrI l.prog w K mg base CM CR := ⟨⟨PySem.W.mg_of X G aM, xM, kM, bM, tM, hM⟩, fI, _, ⟨PySem.W.mg_of X G aR, ⟨⟨nm_R, q_R, NR, bs_R, bm_R, sn_R, sub_R, ab_R, col_R, dd_R, m0_R, m1_R, m2_R, m3_R, m5_R, xR, vR⟩, sR, bR, tR, kR⟩, iR, tI, nR, ⟨gR, hR, bR, dR⟩, mr, hR2⟩,
    ri_fn FI, bI⟩
  have U : UM K mg aU a1 a2 := ⟨PySem.W.mg_of X G uU, fun H => .inr ⟨_, _, _, lU, rfl, rfl, by show 2 ≤ sizeLine; decide, .cons rfl (.cons rfl .nil)⟩, fun H => .inr ⟨_, _, _, l1, rfl, rfl, by show 2 ≤ sizeLine; decide, .cons ⟨_, rfl⟩ (.cons ⟨_, rfl⟩ .nil)⟩, fun H => .inr ⟨_, _, _, l2, rfl, rfl, by show 2 ≤ sizeLine; decide, .cons ⟨_, rfl⟩ (.cons ⟨_, rfl⟩ .nil)⟩⟩
  have r_take := cal_take (P := l.prog) (w := w) (base := base) d__law_take B
  have r_state := cal_state (P := l.prog) (w := w) (base := base) d__law_state B
  have r_is_integer := cal_is_integer (P := l.prog) (w := w) (base := base) d_is_integer B
  have r_whole := cal_whole (P := l.prog) (w := w) (base := base) d__law_whole B
  have r_root := cal_root (P := l.prog) (w := w) (base := base) d_root B
  have r_law_root := cal_law_root (P := l.prog) (w := w) (base := base) d__law_root B
  have r_is_square := cal_is_square (P := l.prog) (w := w) (base := base) d_is_square B
  have r_is_disc := cal_is_disc (P := l.prog) (w := w) (base := base) d_is_discriminant B r_is_integer r_is_square
  have r_row := cal_row (P := l.prog) (w := w) (base := base) d_is_row B r_is_integer
  have r_large := cal_large (P := l.prog) (w := w) (base := base) d_is_large B
  have r_tdisc := cal_tdisc (P := l.prog) (w := w) (base := base) d_told_discriminant B
  have r_form := cal_form (P := l.prog) (w := w) (base := base) d_is_form B r_row r_large r_tdisc r_is_disc
  have r_chkf := cal_chkf (P := l.prog) (w := w) (base := base) d_check_form B r_form e_E
  have r_value := cal_value (P := l.prog) (w := w) (base := base) d__law_value B
  have r_moved := cal_moved (P := l.prog) (w := w) (base := base) d__law_moved B r_value
  have r_prod := cal_prod (P := l.prog) (w := w) (base := base) d__law_product B
  have r_chki := cal_chki (P := l.prog) (w := w) (base := base) d_check_items B r_large e_E
  have r_matrix := cal_matrix (P := l.prog) (w := w) (base := base) d__law_matrix B r_take r_prod
  have r_strange := cal_strange (P := l.prog) (w := w) (base := base) d__law_strange B r_take
  have r_plain := cal_plain (P := l.prog) (w := w) (base := base) d__law_plain B r_whole
  have r_plainN := cal_plainN (P := l.prog) (w := w) (base := base) d__law_plain B r_plain r_whole
  have r_item := cal_item (P := l.prog) (w := w) (base := base) d__law_plain B r_whole r_plain r_plainN
  have r_tup := cal_tup (P := l.prog) (w := w) (base := base) d__law_plain B r_item r_whole
  have r_no_word := cal_no_word (P := l.prog) (w := w) (base := base) d__law_no_word B
  have r_ind := cal_ind (P := l.prog) (w := w) (base := base) d_check_indefinite B r_chkf r_tdisc e_E
  have r_rootof := cal_rootof (P := l.prog) (w := w) (base := base) d__root_of B r_tdisc r_root
  have r_fits := cal_fits (P := l.prog) (w := w) (base := base) d_fits B
  have r_step := cal_step (P := l.prog) (w := w) (base := base) d_step_from B
  have r_turn := cal_turn (P := l.prog) (w := w) (base := base) d_with_turn B
  have r_chkw := cal_chkw (P := l.prog) (w := w) (base := base) d_check_walked B e_E
  have r_onc := cal_onc (P := l.prog) (w := w) (base := base) d_is_on_cycle B r_ind r_rootof r_fits
  have r_next := cal_next (P := l.prog) (w := w) (base := base) d_next_form B r_ind r_rootof r_step r_chki
  have r_lead := cal_lead (P := l.prog) (w := w) (base := base) d_lead B U r_rootof r_fits r_step r_turn
  have r_leadin := cal_leadin (P := l.prog) (w := w) (base := base) d_lead_in B r_ind r_lead r_chki
  have r_walk := cal_walk (P := l.prog) (w := w) (base := base) d_walk B r_rootof r_step
  have r_cwalk := cal_cwalk (P := l.prog) (w := w) (base := base) d__check_walk B r_ind r_tdisc r_chkw r_onc e_E
  have r_cyc := cal_cyc (P := l.prog) (w := w) (base := base) d_cycle_of B r_cwalk r_walk
  have r_trn := cal_trn (P := l.prog) (w := w) (base := base) d_turns_of B r_cwalk r_walk
  have r_says := cal_says (P := l.prog) (w := w) (base := base) d__law_says B
  have r_ldisc := cal_ldisc (P := l.prog) (w := w) (base := base) d__law_disc B
  have r_lon := cal_lon (P := l.prog) (w := w) (base := base) d__law_on_cycle B
  have r_lnext := cal_lnext (P := l.prog) (w := w) (base := base) d__law_next B
  have r_lled := cal_lled (P := l.prog) (w := w) (base := base) d__law_led B r_lon r_lnext r_prod
  have r_lcyc := cal_lcyc (P := l.prog) (w := w) (base := base) d__law_cycle B r_lnext
  have r_td := cal_td (P := l.prog) (w := w) (base := base) d__law_is_told_disc B r_whole r_law_root
  have r_ddp := cal_ddp (P := l.prog) (w := w) (base := base) d__law_drawn_disc B r_take r_td
  have r_dind := cal_dind (P := l.prog) (w := w) (base := base) d__law_drawn_indefinite B r_take r_ddp r_td
  have r_told := cal_told (P := l.prog) (w := w) (base := base) d__law_told B r_onc r_next r_leadin r_cyc r_trn r_tup r_no_word e_E
  have r_wh := cal_wh (P := l.prog) (w := w) (base := base) d__law_walk_holds B r_lon r_onc r_says r_lnext r_next r_tup r_leadin
  have r_gh := cal_gh (P := l.prog) (w := w) (base := base) d__law_great_holds B r_take r_ldisc r_law_root r_lled r_lnext r_lon r_onc r_says r_told
  exact ok_law (P := l.prog) (w := w) (base := base) (fun_mk (st := s_law) l_law c_law k_law) B r_state r_take r_gh r_dind r_ldisc r_matrix r_moved r_law_root r_lled r_wh r_leadin r_tup r_told r_lon r_lcyc r_cyc r_trn r_strange
theorem walk {l : PySem.W.OpenLaw} {q : Program} {loose : List Str} {XP : (Str → Option Value) → Heap → Prop} {YP : World → Heap → Prop} {d : DefRec} {K : Params → PySem.W.Frag} (hn : l.most = some 63) (hdf : d.params.defaults = []) (hY : ∀ (w : World) (h : Heap), YP w h → (K w.params).In h)
    (F : ∀ (w : World) (mg : Str → Option Value) (fa : Addr) (h : Heap), (K w.params).In h → h.Ns mainGlobals mg → mg d.name = some (.ref fa) → ∃ fd : FuncData, (∀ (s : Shared) (u : Value), BindsTo s fd ⟨[u], []⟩ [("script", u)]) ∧ ∀ base : Heap, (K w.params).In base → base.Ns mainGlobals mg → FnOk l.prog w (K w.params) mg base CX0 11 fa fd ["script"] (spLaw (K w.params))) :
    PySem.W.WalkO q loose XP YP l.row.toRowW d [] (fun f vs => PySem.call f vs) :=
  L2.walk_of (n := 63) (k := 11) (x := "script") (CX := fun _ => CX0) (sp := fun w => spLaw (K w.params)) hn (by decide) hdf ⟨rfl, by decide, by decide⟩ hY F (fun _ _ a ns hl _ hS => ⟨a, ns, rfl, hS, hl, fun _ => rfl⟩) fun _ _ _ _ _ z => z

end L21
open PySem PySem.W PyProof.Rows
set_option maxRecDepth 100000 in
set_option maxHeartbeats 0 in
theorem PySem.Challenge.cw_classledger_k21_whole_steps_and_cycles_holds : PySem.Challenge.rw_classledger_k21_whole_steps_and_cycles.Holds := by
  w_on; o_law; k_head; (case hw => w_witness2)
  k_fill
  refine L21.walk (l := PySem.Challenge.rw_classledger_k21_whole_steps_and_cycles) rfl rfl (fun w h Y => PySem.W.kIn_of Y) ?F
  case F =>
    intro w mg fa h KX G hmg
    refine' L21.all_mk KX G hmg ?a__law_take ?l__law_take ?c__law_take ?k__law_take ?a__law_state ?l__law_state ?c__law_state ?k__law_state ?a_is_integer ?l_is_integer ?c_is_integer ?k_is_integer ?a__law_whole ?l__law_whole ?c__law_whole ?k__law_whole ?a_root ?l_root ?c_root ?k_root ?a__law_root ?l__law_root ?c__law_root ?k__law_root ?a_is_square ?l_is_square ?c_is_square ?k_is_square ?a_is_discriminant ?l_is_discriminant ?c_is_discriminant ?k_is_discriminant ?a_is_row ?l_is_row ?c_is_row ?k_is_row ?a_is_large ?l_is_large ?c_is_large ?k_is_large ?a_told_discriminant ?l_told_discriminant ?c_told_discriminant ?k_told_discriminant ?a_is_form ?l_is_form ?c_is_form ?k_is_form ?a_check_form ?l_check_form ?c_check_form ?k_check_form ?a__law_value ?l__law_value ?c__law_value ?k__law_value ?a__law_moved ?l__law_moved ?c__law_moved ?k__law_moved ?a__law_product ?l__law_product ?c__law_product ?k__law_product ?a_check_items ?l_check_items ?c_check_items ?k_check_items ?a__law_matrix ?l__law_matrix ?c__law_matrix ?k__law_matrix ?a__law_strange ?l__law_strange ?c__law_strange ?k__law_strange ?a__law_plain ?l__law_plain ?c__law_plain ?k__law_plain ?a__law_no_word ?l__law_no_word ?c__law_no_word ?k__law_no_word ?a_check_indefinite ?l_check_indefinite ?c_check_indefinite ?k_check_indefinite ?a__root_of ?l__root_of ?c__root_of ?k__root_of ?a_fits ?l_fits ?c_fits ?k_fits ?a_step_from ?l_step_from ?c_step_from ?k_step_from ?a_with_turn ?l_with_turn ?c_with_turn ?k_with_turn ?a_check_walked ?l_check_walked ?c_check_walked ?k_check_walked ?a_is_on_cycle ?l_is_on_cycle ?c_is_on_cycle ?k_is_on_cycle ?a_next_form ?l_next_form ?c_next_form ?k_next_form ?a_lead ?l_lead ?c_lead ?k_lead ?a_lead_in ?l_lead_in ?c_lead_in ?k_lead_in ?a_walk ?l_walk ?c_walk ?k_walk ?a__check_walk ?l__check_walk ?c__check_walk ?k__check_walk ?a_cycle_of ?l_cycle_of ?c_cycle_of ?k_cycle_of ?a_turns_of ?l_turns_of ?c_turns_of ?k_turns_of ?a__law_says ?l__law_says ?c__law_says ?k__law_says ?a__law_disc ?l__law_disc ?c__law_disc ?k__law_disc ?a__law_on_cycle ?l__law_on_cycle ?c__law_on_cycle ?k__law_on_cycle ?a__law_next ?l__law_next ?c__law_next ?k__law_next ?a__law_led ?l__law_led ?c__law_led ?k__law_led ?a__law_cycle ?l__law_cycle ?c__law_cycle ?k__law_cycle ?a__law_is_told_disc ?l__law_is_told_disc ?c__law_is_told_disc ?k__law_is_told_disc ?a__law_drawn_disc ?l__law_drawn_disc ?c__law_drawn_disc ?k__law_drawn_disc ?a__law_drawn_indefinite ?l__law_drawn_indefinite ?c__law_drawn_indefinite ?k__law_drawn_indefinite ?a__law_told ?l__law_told ?c__law_told ?k__law_told ?a__law_walk_holds ?l__law_walk_holds ?c__law_walk_holds ?k__law_walk_holds ?a__law_great_holds ?l__law_great_holds ?c__law_great_holds ?k__law_great_holds ?a_law ?l_law ?c_law ?k_law ?z_abs ?z_int ?z_bool ?z_str ?z_tuple ?z_max ?z_range ?z_isinstance ?z_len ?z_all ?z_any ?z_isqrt ?v_HALVED_BITS ?v_ITEM_BOUND ?v_LARGEST ?aM ?xM ?kM ?bM ?tM ?iM ?mM ?aR ?xR ?vR ?sR ?gR ?hR ?nR ?iR ?tI ?lI ?cI ?kI ?kR ?bR ?tR ?dR ?cR ?rm ?rr ?uU ?lU ?l1 ?l2
    (case a__law_take => k_is); (case l__law_take => k_is); (case c__law_take => k_is); (case k__law_take => k_is)
    (case a__law_state => k_is); (case l__law_state => k_is); (case c__law_state => k_is); (case k__law_state => k_is)
    (case a_is_integer => k_is); (case l_is_integer => k_is); (case c_is_integer => k_is); (case k_is_integer => k_is)
    (case a__law_whole => k_is); (case l__law_whole => k_is); (case c__law_whole => k_is); (case k__law_whole => k_is)
    (case a_root => k_is); (case l_root => k_is); (case c_root => k_is); (case k_root => k_is)
    (case a__law_root => k_is); (case l__law_root => k_is); (case c__law_root => k_is); (case k__law_root => k_is)
    (case a_is_square => k_is); (case l_is_square => k_is); (case c_is_square => k_is); (case k_is_square => k_is)
    (case a_is_discriminant => k_is); (case l_is_discriminant => k_is); (case c_is_discriminant => k_is); (case k_is_discriminant => k_is)
    (case a_is_row => k_is); (case l_is_row => k_is); (case c_is_row => k_is); (case k_is_row => k_is)
    (case a_is_large => k_is); (case l_is_large => k_is); (case c_is_large => k_is); (case k_is_large => k_is)
    (case a_told_discriminant => k_is); (case l_told_discriminant => k_is); (case c_told_discriminant => k_is); (case k_told_discriminant => k_is)
    (case a_is_form => k_is); (case l_is_form => k_is); (case c_is_form => k_is); (case k_is_form => k_is)
    (case a_check_form => k_is); (case l_check_form => k_is); (case c_check_form => k_is); (case k_check_form => k_is)
    (case a__law_value => k_is); (case l__law_value => k_is); (case c__law_value => k_is); (case k__law_value => k_is)
    (case a__law_moved => k_is); (case l__law_moved => k_is); (case c__law_moved => k_is); (case k__law_moved => k_is)
    (case a__law_product => k_is); (case l__law_product => k_is); (case c__law_product => k_is); (case k__law_product => k_is)
    (case a_check_items => k_is); (case l_check_items => k_is); (case c_check_items => k_is); (case k_check_items => k_is)
    (case a__law_matrix => k_is); (case l__law_matrix => k_is); (case c__law_matrix => k_is); (case k__law_matrix => k_is)
    (case a__law_strange => k_is); (case l__law_strange => k_is); (case c__law_strange => k_is); (case k__law_strange => k_is)
    (case a__law_plain => k_is); (case l__law_plain => k_is); (case c__law_plain => k_is); (case k__law_plain => k_is)
    (case a__law_no_word => k_is); (case l__law_no_word => k_is); (case c__law_no_word => k_is); (case k__law_no_word => k_is)
    (case a_check_indefinite => k_is); (case l_check_indefinite => k_is); (case c_check_indefinite => k_is); (case k_check_indefinite => k_is)
    (case a__root_of => k_is); (case l__root_of => k_is); (case c__root_of => k_is); (case k__root_of => k_is)
    (case a_fits => k_is); (case l_fits => k_is); (case c_fits => k_is); (case k_fits => k_is)
    (case a_step_from => k_is); (case l_step_from => k_is); (case c_step_from => k_is); (case k_step_from => k_is)
    (case a_with_turn => k_is); (case l_with_turn => k_is); (case c_with_turn => k_is); (case k_with_turn => k_is)
    (case a_check_walked => k_is); (case l_check_walked => k_is); (case c_check_walked => k_is); (case k_check_walked => k_is)
    (case a_is_on_cycle => k_is); (case l_is_on_cycle => k_is); (case c_is_on_cycle => k_is); (case k_is_on_cycle => k_is)
    (case a_next_form => k_is); (case l_next_form => k_is); (case c_next_form => k_is); (case k_next_form => k_is)
    (case a_lead => k_is); (case l_lead => k_is); (case c_lead => k_is); (case k_lead => k_is)
    (case a_lead_in => k_is); (case l_lead_in => k_is); (case c_lead_in => k_is); (case k_lead_in => k_is)
    (case a_walk => k_is); (case l_walk => k_is); (case c_walk => k_is); (case k_walk => k_is)
    (case a__check_walk => k_is); (case l__check_walk => k_is); (case c__check_walk => k_is); (case k__check_walk => k_is)
    (case a_cycle_of => k_is); (case l_cycle_of => k_is); (case c_cycle_of => k_is); (case k_cycle_of => k_is)
    (case a_turns_of => k_is); (case l_turns_of => k_is); (case c_turns_of => k_is); (case k_turns_of => k_is)
    (case a__law_says => k_is); (case l__law_says => k_is); (case c__law_says => k_is); (case k__law_says => k_is)
    (case a__law_disc => k_is); (case l__law_disc => k_is); (case c__law_disc => k_is); (case k__law_disc => k_is)
    (case a__law_on_cycle => k_is); (case l__law_on_cycle => k_is); (case c__law_on_cycle => k_is); (case k__law_on_cycle => k_is)
    (case a__law_next => k_is); (case l__law_next => k_is); (case c__law_next => k_is); (case k__law_next => k_is)
    (case a__law_led => k_is); (case l__law_led => k_is); (case c__law_led => k_is); (case k__law_led => k_is)
    (case a__law_cycle => k_is); (case l__law_cycle => k_is); (case c__law_cycle => k_is); (case k__law_cycle => k_is)
    (case a__law_is_told_disc => k_is); (case l__law_is_told_disc => k_is); (case c__law_is_told_disc => k_is); (case k__law_is_told_disc => k_is)
    (case a__law_drawn_disc => k_is); (case l__law_drawn_disc => k_is); (case c__law_drawn_disc => k_is); (case k__law_drawn_disc => k_is)
    (case a__law_drawn_indefinite => k_is); (case l__law_drawn_indefinite => k_is); (case c__law_drawn_indefinite => k_is); (case k__law_drawn_indefinite => k_is)
    (case a__law_told => k_is); (case l__law_told => k_is); (case c__law_told => k_is); (case k__law_told => k_is)
    (case a__law_walk_holds => k_is); (case l__law_walk_holds => k_is); (case c__law_walk_holds => k_is); (case k__law_walk_holds => k_is)
    (case a__law_great_holds => k_is); (case l__law_great_holds => k_is); (case c__law_great_holds => k_is); (case k__law_great_holds => k_is)
    (case a_law => k_is); (case l_law => k_is); (case c_law => k_is); (case k_law => k_is)
    (case z_abs => k_is); (case z_int => k_is); (case z_bool => k_is); (case z_str => k_is)
    (case z_tuple => k_is); (case z_max => k_is); (case z_range => k_is); (case z_isinstance => k_is)
    (case z_len => k_is); (case z_all => k_is); (case z_any => k_is); (case z_isqrt => k_is)
    (case v_HALVED_BITS => k_is); (case v_ITEM_BOUND => k_is); (case v_LARGEST => k_is); (case aM => k_is)
    (case xM => k_exc); (case kM => k_is); (case bM => k_is); (case tM => k_is)
    (case iM => k_is); (case mM => k_is); (case aR => k_is); (case xR => k_is)
    (case vR => first | rfl | decide +kernel); (case sR => k_is); (case gR => k_is); (case hR => k_is)
    (case nR => k_is); (case iR => k_is); (case tI => k_is); (case lI => k_is)
    (case cI => k_is); (case kI => k_is); (case kR => k_is); (case bR => k_is)
    (case tR => k_is); (case dR => k_is); (case cR => k_is); (case rm => k_is)
    (case rr => k_is); (case uU => k_is); (case lU => k_is); (case l1 => k_is)
    (case l2 => k_is)
