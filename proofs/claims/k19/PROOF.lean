import PyProof.Rows.All
import Wide.All
import OpenK.AllK
import Wide.FinOn
import HandS.ForMost
import HandS.Exc
import HandS.ExcOwn
import HandS.ExcInit
import HandS.TryOnly
import HandS.TryMany
import HandS.WordsExc
import HandS.Gcd
import HandS.Wide
import HandS.WideMore
import HandS.WideBits
import HandS.IsInst
import HandS.Style
import HandS.Flow
import HandS.SortRule
import HandS.SortInts
import HandS.Conv
import HandS.ExcField
import PySem.Challenge.RW_classledger_k19_whole_numbers_of_hurwitz
set_option Elab.async false
set_option linter.all false
set_option maxRecDepth 100000
set_option maxHeartbeats 4000000
namespace CB
open PySem PySem.Spec PyProof.Rows L2
/-! ### operators of any size -/
section
variable {X : Cx}
theorem op_mulI : OpR X (binaryOp .Mult) (rI IntMulOk fun i j => .int (i * j)) := opI fun _ _ _ _ _ _ _ hc q => mul_int q hc
theorem iop_mulI : OpR X (inplaceOp .Mult) (rI IntMulOk fun i j => .int (i * j)) := opI fun _ _ _ _ _ _ _ hc q => imul_int q hc
/-- math.isqrt of an int below 2 ^ 13000 -/
def rIsqrt : List V → Hp → VK → Prop := fun vs H Q => ∃ a : Int, vs = [.int a] ∧ 0 ≤ a ∧ a < 2 ^ 13000 ∧ Q (.int ((Float64.isqrt a.toNat : Nat) : Int)) H
theorem log_lt {n k : Nat} (h : n < 2 ^ (k + 1)) : n.log2 ≤ k := PySem.W.mg_log h
theorem cr_isqrt : CallR X (.builtin "math.isqrt") rIsqrt := by
  intro pins s σ H vs us Q I r h
  obtain ⟨a, rfl, h0, h1, q⟩ := h
  obtain ⟨u, rfl, ru⟩ := vals1 r
  obtain ⟨t, rfl⟩ := ru
  have hl : a.toNat.log2 ≤ 12999 := log_lt (by
    have e : ((2 : Int) ^ 13000) = ((2 ^ 13000 : Nat) : Int) := by rw [Int.natCast_pow]; rfl
    rw [e] at h1
    show a.toNat < 2 ^ 13000
    omega)
  exact call_function_meets PySem.W.MGF.kind_isqrt PySem.W.MGF.plain_isqrt PySem.W.MGF.entry_isqrt (PySem.W.MGF.args_isqrt _) (PySem.W.mg_run_isqrt a t (by omega) (by omega) (by omega)).meets
    ⟨.int _, H, I.tok _, ⟨_, rfl⟩, q⟩
theorem isqrt_spec (n : Nat) : Float64.isqrt n * Float64.isqrt n ≤ n ∧ n < (Float64.isqrt n + 1) * (Float64.isqrt n + 1) := PySem.Float64.isqrt_spec n
/-! ### a < b < c < d -/
def tChain3 (r r' r'' : R2) (ta tb tc td : TE) : TE := fun σ H Q => ta σ H fun x H1 => tb σ H1 fun y H2 => r x y H2 fun z H3 => ∃ k, z = .bl k ∧
  (if k = true then tc σ H3 fun y' H4 => r' y y' H4 fun z' H5 => ∃ k', z' = .bl k' ∧ (if k' = true then td σ H5 fun w' H6 => r'' y' w' H6 Q else Q (.bl false) H5) else Q (.bl false) H3)
variable {a b c d : Expr} {ta tb tc td : TE} {pos : Pos}
theorem pt_chain3 {o1 o2 o3 : CmpOp} {r r' r'' : R2} (ho : OpR X (compareOp o1) r) (ho' : OpR X (compareOp o2) r') (ho'' : OpR X (compareOp o3) r'') (ha : PE X a ta) (hb : PE X b tb) (hc : PE X c tc) (hd : PE X d td)
    (hm : lastMarks [o1, o2, o3] [b, c, d] = false := by with_unfolding_all rfl) : PT X (.Compare a [o1, o2, o3] [b, c, d] pos) (tTest (tChain3 r r' r'' ta tb tc td)) := by
  refine ⟨fun pins s σ H Q I h => ?_⟩
  refine isTrue_chain (thn (ha.run pins s σ H _ I h) fun v s1 ⟨x, H1, I1, r1, q1⟩ => test_link (thn (hb.run pins s1 σ H1 _ I1 q1) fun u s2 ⟨y, H2, I2, r2, q2⟩ =>
    thn (ho pins s2 σ H2 x y v u _ I2 r1 r2 q2) fun d1 s3 ⟨z, H3, I3, r3, k, e, q3⟩ => ?_)) hm
  subst e
  cases r3
  refine wpAny_truthy_bool ?_
  cases k with
  | false =>
    obtain ⟨k', e', q'⟩ := q3
    cases e'
    exact ite_ff ⟨H3, I3, q'⟩
  | true =>
    refine ite_tt (test_link (thn (hc.run pins s3 σ H3 _ I3 q3) fun u' s4 ⟨y', H4, I4, r4, q4⟩ => thn (ho' pins s4 σ H4 y y' u u' _ I4 r2 r4 q4) fun d2 s5 ⟨z2, H5, I5, r5, k2, e2, q5⟩ => ?_))
    subst e2
    cases r5
    refine wpAny_truthy_bool ?_
    cases k2 with
    | false =>
      obtain ⟨k', e', q'⟩ := q5
      cases e'
      exact ite_ff ⟨H5, I5, q'⟩
    | true =>
      refine ite_tt (test_last (thn (hd.run pins s5 σ H5 _ I5 q5) fun w' s6 ⟨z3, H6, I6, r6, q6⟩ => thn (ho'' pins s6 σ H6 y' z3 u' w' _ I6 r4 r6 q6) fun d3 s7 ⟨z4, H7, I7, r7, k4, e4, q7⟩ => ?_))
      subst e4
      cases r7
      exact wpAny_truthy_bool ⟨H7, I7, q7⟩
end
/-! ### a def that a caller calls by its name -/
structure Cal (P : Program) (w : World) (K : PySem.W.Frag) (mg : Str → Option Value) (base : Heap) (x : Str) (k : Nat) (ps : List Str) (sp : Sp) : Prop where
  ok : ∃ f fd, FnOk P w K mg base CX0 k f fd ps sp ∧ mg x = some (.ref f) ∧ PySem.W.keepIn K (.ref f) = true ∧ Binds K fd ps []
section
variable {X : Cx} {k : Nat} {ps : List Str} {sp : Sp} {x : Str} {p pos : Pos} {e : Expr} {es : List Expr} {t : TA}
theorem pe_cal (C : Cal X.prog X.w X.K X.mg X.base x k ps sp) (hr : Room k X.A) (hg : Gl X x) (ha : PA X (e :: es) t) (hdb : (x == ("__debug__" : Str)) = false := by decide)
    (he : starEach (e :: es) X.env = (false, eval e X.env) :: starEach es X.env := by rfl) (hpl : (backTo pos (starEach es X.env)).any (·.1) = false := by rfl) : PE X (.Call (.Name x p) (e :: es) [] pos) (tCall sp [] E0 t) := by
  obtain ⟨f, fd, F, hm, hk, hb⟩ := C.ok
  exact pe_call F hr hg hm hk hb .nil pass0 ha hdb he hpl
end
/-! ### readings, unfolded -/
section
variable {σ : L2.St} {H : Hp} {Q : VK} {QT : Bool → Hp → Prop} {QA : List V → Hp → Prop} {D : Ends} {i j : Nat} {v x y : V} {ta tb tc td : TE} {tA tB' : TT} {t u : TS} {tr : TA} {K : PySem.W.Frag}
theorem rd_var : tVar i σ H Q = ∃ v, σ[i]? = some (some v) ∧ Q v H := rfl
theorem rd_C : tC v σ H Q = Q v H := rfl
theorem rd_op {r : R2} : tOp r ta tb σ H Q = ta σ H fun x H1 => tb σ H1 fun y H2 => r x y H2 Q := rfl
theorem rd_un {r : V → Hp → VK → Prop} : tUn r ta σ H Q = ta σ H fun x H1 => r x H1 Q := rfl
theorem rd_I {C : Int → Int → Prop} {g : Int → Int → V} : rI C g x y H Q = ∃ i j, x = .int i ∧ y = .int j ∧ C i j ∧ Q (g i j) H := rfl
theorem rd_I0 {g : Int → Int → V} : rI0 g x y H Q = ∃ i j, x = .int i ∧ y = .int j ∧ Q (g i j) H := rfl
theorem rd_U {g : Int → V} : rU g x H Q = ∃ i, x = .int i ∧ Q (g i) H := rfl
theorem rd_Eq : rEq x y H Q = (scal x y = true ∧ Q (.bl (decide (x = y))) H) := rfl
theorem rd_Ne : rNe x y H Q = (scal x y = true ∧ Q (.bl (!decide (x = y))) H) := rfl
theorem rd_test : tTest ta σ H QT = ta σ H fun x H' => ∃ k, x = .bl k ∧ QT k H' := rfl
theorem rd_B : L2.tB ta σ H QT = ta σ H fun x H' => ∃ k, x = .bl k ∧ QT k H' := rfl
theorem rd_and {s t : TT} : tAnd s t σ H QT = s σ H fun c H1 => if c = true then t σ H1 QT else QT false H1 := rfl
theorem rd_or {s t : TT} : tOr s t σ H QT = s σ H fun c H1 => if c = true then QT true H1 else t σ H1 QT := rfl
theorem rd_not {s : TT} : tNot s σ H QT = s σ H fun c H1 => QT (!c) H1 := rfl
theorem rd_andV : tAndV ta tb σ H Q = ta σ H fun x H1 => ∃ c, x = .bl c ∧ if c = true then tb σ H1 Q else Q (.bl false) H1 := rfl
theorem rd_orV : tOrV ta tb σ H Q = ta σ H fun x H1 => ∃ c, x = .bl c ∧ if c = true then Q (.bl true) H1 else tb σ H1 Q := rfl
theorem rd_notV : tNotV ta σ H Q = ta σ H fun x H1 => ∃ c, x = .bl c ∧ Q (.bl (!c)) H1 := rfl
theorem rd_if {c : TT} : tIf c ta tb σ H Q = c σ H fun b H1 => if b = true then ta σ H1 Q else tb σ H1 Q := rfl
theorem rd_chain {r r' : R2} : tChain r r' ta tb tc σ H Q = ta σ H fun x H1 => tb σ H1 fun y H2 => r x y H2 fun z H3 => ∃ k, z = .bl k ∧ (if k = true then tc σ H3 fun w' H4 => r' y w' H4 Q else Q (.bl false) H3) := rfl
theorem rd_chain3 {r r' r'' : R2} : tChain3 r r' r'' ta tb tc td σ H Q = ta σ H fun x H1 => tb σ H1 fun y H2 => r x y H2 fun z H3 => ∃ k, z = .bl k ∧
  (if k = true then tc σ H3 fun y' H4 => r' y y' H4 fun z' H5 => ∃ k', z' = .bl k' ∧ (if k' = true then td σ H5 fun w' H6 => r'' y' w' H6 Q else Q (.bl false) H5) else Q (.bl false) H3) := rfl
theorem rd_next : tNext D σ H = D.nx σ H := rfl
theorem rd_seq : tSeq t u D σ H = t { D with nx := u D } σ H := rfl
theorem rd_drop : tDrop ta D σ H = ta σ H fun _ H1 => D.nx σ H1 := rfl
theorem rd_ret : tRet ta D σ H = ta σ H D.rt := rfl
theorem rd_retN : tRetN D σ H = D.rt .non H := rfl
theorem rd_break : tBreak D σ H = D.bk σ H := rfl
theorem rd_cont : tCont D σ H = D.ct σ H := rfl
theorem rd_ifS {c : TT} : tIfS c t u D σ H = c σ H fun b H1 => if b = true then t D σ H1 else u D σ H1 := rfl
theorem rd_asg {g : TG} : tAsg ta g D σ H = ta σ H fun x H1 => g x σ H1 D.nx := rfl
theorem rd_name {QS : L2.St → Hp → Prop} : gName i v σ H QS = QS (σ.set i (some v)) H := rfl
theorem rd_gsub {to ti : TE} {s : TSet} {QS : L2.St → Hp → Prop} : gSub to ti s v σ H QS = to σ H fun o H1 => ti σ H1 fun i H2 => s o i v H2 fun H3 => QS σ H3 := rfl
theorem rd_gtup {n : Nat} {g : TGs} {QS : L2.St → Hp → Prop} : gTup K n g v σ H QS = ∃ a xs, v = .ref a ∧ SqT K H a xs ∧ xs.length = n ∧ g xs σ H QS := rfl
theorem rd_gcons {g : TG} {gs : TGs} {vs : List V} {QS : L2.St → Hp → Prop} : gCons g gs vs σ H QS = ∃ v r, vs = v :: r ∧ g v σ H fun σ' H' => gs r σ' H' QS := rfl
theorem rd_gnil {vs : List V} {QS : L2.St → Hp → Prop} : gNil vs σ H QS = (vs = [] ∧ QS σ H) := rfl
theorem rd_par : tPar i j tr D σ H = tr σ H fun vs H1 => ∃ v w, vs = [v, w] ∧ D.nx ((σ.set i (some v)).set j (some w)) H1 := rfl
theorem rd_aug {te : TE} {ti : TIp} : tAug i te ti D σ H = ∃ x, σ[i]? = some (some x) ∧ te σ H fun y H1 => ti x y H1 fun z H2 => D.nx (σ.set i (some z)) H2 := rfl
theorem rd_ipI {f : Int → Int → Int} : ipI f x y H Q = ∃ i j, x = .int i ∧ y = .int j ∧ Q (.int (f i j)) H := rfl
theorem rd_nil : tNil σ H QA = QA [] H := rfl
theorem rd_cons : tCons ta tr σ H QA = ta σ H fun x H1 => tr σ H1 fun xs H2 => QA (x :: xs) H2 := rfl
theorem rd_tup : tTup tr σ H Q = tr σ H fun xs H1 => xs.length ≤ sizeLine ∧ ∀ p, H1 p = none → Q (.ref p) (upd H1 p (.tup xs)) := rfl
theorem rd_lst : tLst tr σ H Q = tr σ H fun xs H1 => xs.length ≤ sizeLine ∧ ∀ p, H1 p = none → Q (.ref p) (upd H1 p (.lst xs)) := rfl
theorem rd_CB {r : List V → Hp → VK → Prop} : tCB r tr σ H Q = tr σ H fun vs H1 => r vs H1 Q := rfl
theorem rd_call {sp : Sp} {dvs : List V} {E : XK} : tCall sp dvs E tr σ H Q = tr σ H fun vs H1 => sp (vs ++ dvs) H1 Q E := rfl
theorem rd_callS {sp : Sp} {E : L2.St → XK} : tCallS sp E tr σ H Q = tr σ H fun vs H1 => sp vs H1 Q (E σ) := rfl
theorem rd_ixL : rIxL K x y H Q = ∃ p xs i v, x = .ref p ∧ y = .int i ∧ SqL K H p xs ∧ atI xs i = some v ∧ Q v H := rfl
theorem rd_ixT : rIxT K x y H Q = ∃ p xs i v, x = .ref p ∧ y = .int i ∧ SqT K H p xs ∧ atI xs i = some v ∧ Q v H := rfl
theorem rd_isqrt {vs : List V} : rIsqrt vs H Q = ∃ a : Int, vs = [.int a] ∧ 0 ≤ a ∧ a < 2 ^ 13000 ∧ Q (.int ((Float64.isqrt a.toNat : Nat) : Int)) H := rfl
theorem rd_sum {vs : List V} : rSum K vs H Q = ∃ (a : Addr) (ns : List Int), vs = [V.ref a] ∧ SqL K H a (ns.map V.int) ∧ Q (.int ns.sum) H := rfl
end

/-! ### a def of the text: it stands, its name, its parameters -/
structure Dn (K : PySem.W.Frag) (mg : Str → Option Value) (x : Str) (st : Stmt) (ps : List Str) : Prop where
  ok : ∃ f fd, Fun K x x st f fd ∧ mg x = some (.ref f) ∧ Binds K fd ps []
section
variable {P : Program} {w : World} {K : PySem.W.Frag} {mg : Str → Option Value} {base : Heap}
theorem Dn.cal {x : Str} {st : Stmt} {N ps : List Str} {k : Nat} {sp : Sp} (D : Dn K mg x st ps) (S : FnScope N ps (defScope st)) (len : ∀ vs H Q E, sp vs H Q E → vs.length = ps.length)
    (hbody : ∀ (f : Addr) (cdv : Value) (A : Around) (outer : List Env) (s : Shared) (H : Hp) (vs : List V) (Q : VK) (E : XK), Room k (A.deeper (envOfC x (defScope st) s.heap.objs.size f cdv)) → sp vs H Q E →
      ∃ t, PSs (cxOf CX0 P w K mg base N x (defScope st) f cdv A outer s H E).nox (defBody st) t ∧ t { nx := fun _ H' => Q .non H', rt := Q } (start N vs) H) : Cal P w K mg base x (k + 1) ps sp := by
  obtain ⟨f, fd, F, hm, hb⟩ := D.ok
  exact ⟨f, fd, F.ok S len fun cdv A outer s H vs Q E hr h => hbody f cdv A outer s H vs Q E hr h, hm, F.kp, hb⟩
end
/-- a weaker wish -/
theorem same_upd {H : Hp} {p : Addr} {o : HO} (h : H p = none) : Same H (upd H p o) := fun b x e => by
  rw [upd_ne (ne_of_none e h)]
  exact e
theorem ex_int {p : Int → Prop} {i : Int} : (∃ j, V.int i = V.int j ∧ p j) = p i := by simp
theorem ex_bl {p : Bool → Prop} {i : Bool} : (∃ j, V.bl i = V.bl j ∧ p j) = p i := by simp
theorem ex_ref {p : Addr → Prop} {i : Addr} : (∃ j, V.ref i = V.ref j ∧ p j) = p i := by simp
theorem ex_str {p : Str → Prop} {i : Str} : (∃ j, V.str i = V.str j ∧ p j) = p i := by simp
theorem ex_some {p : V → Prop} {x : V} : (∃ v, some (some x) = some (some v) ∧ p v) = p x := by simp
theorem ex_2i {p : Int → Int → Prop} {i j : Int} : (∃ a b, V.int i = V.int a ∧ V.int j = V.int b ∧ p a b) = p i j := by simp
theorem ex_l1 {p : Int → Prop} {i : Int} : (∃ j, [V.int i] = [V.int j] ∧ p j) = p i := by simp
theorem ex_l2 {p : Int → Int → Prop} {i j : Int} : (∃ a b, [V.int i, V.int j] = [V.int a, V.int b] ∧ p a b) = p i j := propext ⟨fun ⟨_, _, e, h⟩ => by cases e; exact h, fun h => ⟨_, _, rfl, h⟩⟩
theorem ex_v2 {p : V → V → Prop} {i j : V} : (∃ a b, [i, j] = [a, b] ∧ p a b) = p i j := propext ⟨fun ⟨_, _, e, h⟩ => by cases e; exact h, fun h => ⟨_, _, rfl, h⟩⟩
theorem int1_eq {p : Int → Prop} {q : Bool → Prop} {i : Int} : ((∃ j, [V.int i] = [V.int j] ∧ p j) ∨ ∃ k, [V.int i] = [V.bl k] ∧ q k) = p i := by simp
theorem scal_int {i j : Int} : (scal (V.int i) (V.int j) = true) = True := by simp [scal]
theorem scal_str {i j : Str} : (scal (V.str i) (V.str j) = true) = True := by simp [scal]
theorem dec_ii {i j : Int} : decide (V.int i = V.int j) = decide (i = j) := by simp
theorem ite_dec {p : Prop} [Decidable p] {A B : Prop} : (if decide p = true then A else B) = (if p then A else B) := by simp
theorem ite_ndec {p : Prop} [Decidable p] {A B : Prop} : (if (!decide p) = true then A else B) = (if p then B else A) := by
  by_cases h : p <;> simp [h]
section
variable {H : Hp} {Q : VK} {x y v : V}
theorem rd_setL {R : Hp → Prop} : rSetL x y v H R = ∃ p xs k j, x = .ref p ∧ y = .int k ∧ H p = some (.lst xs) ∧ ixN xs.length k = some j ∧ R (upd H p (.lst (xs.set j v))) := rfl
theorem rd_append {K : PySem.W.Frag} {to : TE} {t : TA} {σ : L2.St} : tBM K "list" rAppend to t σ H Q = to σ H fun x H1 => tyV K "list" x H1 ∧ t σ H1 fun xs H2 => ∃ l ys y, x = .ref l ∧ xs = [y] ∧ H2 l = some (.lst ys) ∧ ys.length < sizeLine ∧ Q .non (upd H2 l (.lst (ys ++ [y]))) := rfl
theorem K_nox {X : Cx} : X.nox.K = X.K := rfl
theorem K_cxOf {CX : CXT} {P : Program} {w : World} {K : PySem.W.Frag} {mg : Str → Option Value} {base : Heap} {N : List Str} {qual : Str} {scope : Scope} {f : Addr} {cd : Value} {A : Around} {outer : List Env} {s : Shared} {H : Hp} {E : XK} :
  (cxOf CX P w K mg base N qual scope f cd A outer s H E).K = K := rfl
end
/-- int * int with a small side -/
theorem mulL {i j : Int} (h : -(2 ^ 64) < i ∧ i < 2 ^ 64) : IntMulOk i j := CMul.ok (.inl h)
theorem mulR {i j : Int} (h : -(2 ^ 64) < j ∧ j < 2 ^ 64) : IntMulOk i j := CMul.ok (.inr h)
theorem tyL {K : PySem.W.Frag} {l : Addr} {xs : List V} {H : Hp} (h : H l = some (.lst xs)) : tyV K "list" (.ref l) H := .inl ⟨rfl, _, SqL.of h⟩
/-! ### loops, by a word: the reading stops at ForL .. -/
def ForJ (J : It) (g : TG) (tb : TS) (D : Ends) (σ : L2.St) (H1 : Hp) : Prop := ∃ W : Nat → Nat → L2.St → Hp → Prop, (∃ m, W 0 m σ H1) ∧ ∀ i m σ H, W i m σ H →
  (J.stop i H ∧ D.nx σ H) ∨ (J.go i H ∧ ∃ N : L2.St → Hp → Prop, (∀ σ' H', N σ' H' → ∃ m', m' < m ∧ W (i + 1) m' σ' H') ∧ ∀ x H', J.yld i H x H' → g x σ H' fun σ2 H2 => tb { D with nx := N, ct := N, bk := D.nx } σ2 H2)
def ForL (K : PySem.W.Frag) (a : Addr) := ForJ (Itl K a)
def ForT (K : PySem.W.Frag) (a : Addr) := ForJ (Itt K a)
def ForR (lo : Int) (n : Nat) := ForJ (Itr lo n)
def ForC (lo c : Int) (n : Nat) := ForJ (Itc lo c n)
section
variable {K : PySem.W.Frag} {a : Addr} {xs : List V} {g : TG} {tb : TS} {D : Ends} {σ : L2.St} {H : Hp} {te : TE} {ta : TA}
theorem rd_forL : tFor (iList K te) g tb D σ H = te σ H fun x H1 => ∃ a, x = .ref a ∧ (∃ xs, SqL K H1 a xs) ∧ ForL K a g tb D σ H1 := rfl
theorem rd_forT : tFor (iTup K te) g tb D σ H = te σ H fun x H1 => ∃ a, x = .ref a ∧ (∃ xs, SqT K H1 a xs) ∧ ForT K a g tb D σ H1 := rfl
theorem rd_forR1 : tFor (iRng1 ta) g tb D σ H = ta σ H fun vs H1 => ∃ j : Int, vs = [.int j] ∧ -(2 ^ 62) ≤ j ∧ j < 2 ^ 62 ∧ ForR 0 j.toNat g tb D σ H1 := rfl
theorem rd_forR2 : tFor (iRng2 ta) g tb D σ H = ta σ H fun vs H1 => ∃ i j : Int, vs = [.int i, .int j] ∧ (-(2 ^ 62) ≤ i ∧ i < 2 ^ 62 ∧ -(2 ^ 62) ≤ j ∧ j < 2 ^ 62) ∧ ForR i (j - i).toNat g tb D σ H1 := rfl
theorem rd_forR3 : tFor (iRng3 ta) g tb D σ H = ta σ H fun vs H1 => ∃ (i j c : Int) (n : Nat), vs = [.int i, .int j, .int c] ∧ RgC i j c n ∧ ForC i c n g tb D σ H1 := rfl
theorem ForL.mk (Pv : Nat → L2.St → Hp → Prop) (h0 : Pv 0 σ H) (hl : ∀ i σ H, i ≤ xs.length → Pv i σ H → SqL K H a xs)
    (hs : ∀ i x σ H, xs[i]? = some x → Pv i σ H → g x σ H fun σ2 H2 => tb { D with nx := Pv (i + 1), ct := Pv (i + 1), bk := D.nx } σ2 H2) (hd : ∀ σ H, Pv xs.length σ H → D.nx σ H) : ForL K a g tb D σ H := for_list Pv h0 hl hs hd
theorem ForT.mk (Pv : Nat → L2.St → Hp → Prop) (h0 : Pv 0 σ H) (hl : ∀ i σ H, i ≤ xs.length → Pv i σ H → SqT K H a xs)
    (hs : ∀ i x σ H, xs[i]? = some x → Pv i σ H → g x σ H fun σ2 H2 => tb { D with nx := Pv (i + 1), ct := Pv (i + 1), bk := D.nx } σ2 H2) (hd : ∀ σ H, Pv xs.length σ H → D.nx σ H) : ForT K a g tb D σ H := for_tup Pv h0 hl hs hd
theorem ForR.mk {lo : Int} {n : Nat} (Pv : Nat → L2.St → Hp → Prop) (h0 : Pv 0 σ H)
    (hs : ∀ i σ H, i < n → Pv i σ H → g (.int (lo + i)) σ H fun σ2 H2 => tb { D with nx := Pv (i + 1), ct := Pv (i + 1), bk := D.nx } σ2 H2) (hd : ∀ σ H, Pv n σ H → D.nx σ H) : ForR lo n g tb D σ H := for_range Pv h0 hs hd
theorem ForC.mk {lo c : Int} {n : Nat} (Pv : Nat → L2.St → Hp → Prop) (h0 : Pv 0 σ H)
    (hs : ∀ i σ H, i < n → Pv i σ H → g (.int (lo + (i : Nat) * c)) σ H fun σ2 H2 => tb { D with nx := Pv (i + 1), ct := Pv (i + 1), bk := D.nx } σ2 H2) (hd : ∀ σ H, Pv n σ H → D.nx σ H) : ForC lo c n g tb D σ H := for_rangeC Pv h0 hs hd
/-- while, the test's answer told (it lays nothing) -/
theorem while_mk {c : TT} (Pv : L2.St → Hp → Prop) (μ : L2.St → Hp → Nat) (h0 : Pv σ H)
    (hs : ∀ σ H, Pv σ H → ∃ b : Bool, (∀ Q : Bool → Hp → Prop, Q b H → c σ H Q) ∧ (b = true → tb { D with nx := fun σ' H' => Pv σ' H' ∧ μ σ' H' < μ σ H, ct := fun σ' H' => Pv σ' H' ∧ μ σ' H' < μ σ H, bk := D.nx } σ H) ∧ (b = false → D.nx σ H)) : tWhile c tb D σ H := by
  refine ⟨fun m σ H => m = μ σ H ∧ Pv σ H, ⟨_, rfl, h0⟩, ?_⟩
  rintro m σ H ⟨rfl, p⟩
  obtain ⟨b, hc, h1, h2⟩ := hs σ H p
  refine hc _ ?_
  cases b with
  | true => rw [if_pos rfl]; exact ⟨_, fun σ' H' ⟨p', l⟩ => ⟨_, l, rfl, p'⟩, h1 rfl⟩
  | false => rw [if_neg Bool.false_ne_true]; exact h2 rfl
end
/-! ### comprehensions -/
def LcJ (J : It) (g : TG) (tt : TT) (te : TE) (vs : List Nat) (σ : L2.St) (H1 : Hp) (Q : VK) : Prop := ∀ D, H1 D = none → ∃ W : Nat → Nat → Hp → Prop, (∃ m, W 0 m (upd H1 D (.lst []))) ∧ ∀ i m H, W i m H →
  (J.stop i H ∧ Q (.ref D) H) ∨ (J.go i H ∧ ∃ Nx : Hp → Prop, (∀ H', Nx H' → ∃ m', m' < m ∧ W (i + 1) m' H') ∧ ∀ x H', J.yld i H x H' → g x (wipe σ vs) H' fun σ2 H2 => wipe σ2 vs = wipe σ vs ∧ tt σ2 H2 fun b H3 =>
    if b = true then te σ2 H3 fun y H4 => ∃ acc, H4 D = some (.lst acc) ∧ acc.length < sizeLine ∧ Nx (upd H4 D (.lst (acc ++ [y]))) else Nx H3)
def LcL (K : PySem.W.Frag) (a : Addr) := LcJ (Itl K a)
def LcT (K : PySem.W.Frag) (a : Addr) := LcJ (Itt K a)
def LcR (lo : Int) (n : Nat) := LcJ (Itr lo n)
section
variable {K : PySem.W.Frag} {a : Addr} {xs : List V} {g : TG} {tt : TT} {te tl : TE} {ta : TA} {vs : List Nat} {σ : L2.St} {H : Hp} {Q : VK}
theorem rd_lcL : tLc (iList K tl) g tt te vs σ H Q = tl σ H fun x H1 => ∃ a, x = .ref a ∧ (∃ xs, SqL K H1 a xs) ∧ LcL K a g tt te vs σ H1 Q := rfl
theorem rd_lcT : tLc (iTup K tl) g tt te vs σ H Q = tl σ H fun x H1 => ∃ a, x = .ref a ∧ (∃ xs, SqT K H1 a xs) ∧ LcT K a g tt te vs σ H1 Q := rfl
theorem rd_lcR1 : tLc (iRng1 ta) g tt te vs σ H Q = ta σ H fun us H1 => ∃ j : Int, us = [.int j] ∧ -(2 ^ 62) ≤ j ∧ j < 2 ^ 62 ∧ LcR 0 j.toNat g tt te vs σ H1 Q := rfl
theorem rd_lcR2 : tLc (iRng2 ta) g tt te vs σ H Q = ta σ H fun us H1 => ∃ i j : Int, us = [.int i, .int j] ∧ (-(2 ^ 62) ≤ i ∧ i < 2 ^ 62 ∧ -(2 ^ 62) ≤ j ∧ j < 2 ^ 62) ∧ LcR i (j - i).toNat g tt te vs σ H1 Q := rfl
/-- the word of a comprehension at D: what is made so far, the heap -/
theorem LcL.mk (Pv : Nat → Addr → Hp → Prop) (h0 : ∀ D, H D = none → Pv 0 D (upd H D (.lst []))) (hl : ∀ D i H, i ≤ xs.length → Pv i D H → SqL K H a xs)
    (hs : ∀ D i x H, xs[i]? = some x → Pv i D H → g x (wipe σ vs) H fun σ2 H2 => wipe σ2 vs = wipe σ vs ∧ tt σ2 H2 fun b H3 =>
      if b = true then te σ2 H3 fun y H4 => ∃ acc, H4 D = some (.lst acc) ∧ acc.length < sizeLine ∧ Pv (i + 1) D (upd H4 D (.lst (acc ++ [y]))) else Pv (i + 1) D H3) (hd : ∀ D H', H D = none → Pv xs.length D H' → Q (.ref D) H') : LcL K a g tt te vs σ H Q :=
  fun D hD => lc_list (Qd := fun H' => Q (.ref D) H') (fun i H => Pv i D H) (h0 D hD) (hl D) (hs D) (fun H' p => hd D H' hD p)
theorem LcT.mk (Pv : Nat → Addr → Hp → Prop) (h0 : ∀ D, H D = none → Pv 0 D (upd H D (.lst []))) (hl : ∀ D i H, i ≤ xs.length → Pv i D H → SqT K H a xs)
    (hs : ∀ D i x H, xs[i]? = some x → Pv i D H → g x (wipe σ vs) H fun σ2 H2 => wipe σ2 vs = wipe σ vs ∧ tt σ2 H2 fun b H3 =>
      if b = true then te σ2 H3 fun y H4 => ∃ acc, H4 D = some (.lst acc) ∧ acc.length < sizeLine ∧ Pv (i + 1) D (upd H4 D (.lst (acc ++ [y]))) else Pv (i + 1) D H3) (hd : ∀ D H', H D = none → Pv xs.length D H' → Q (.ref D) H') : LcT K a g tt te vs σ H Q :=
  fun D hD => lc_tup (Qd := fun H' => Q (.ref D) H') (fun i H => Pv i D H) (h0 D hD) (hl D) (hs D) (fun H' p => hd D H' hD p)
theorem LcR.mk {lo : Int} {n : Nat} (Pv : Nat → Addr → Hp → Prop) (h0 : ∀ D, H D = none → Pv 0 D (upd H D (.lst [])))
    (hs : ∀ D i H, i < n → Pv i D H → g (.int (lo + i)) (wipe σ vs) H fun σ2 H2 => wipe σ2 vs = wipe σ vs ∧ tt σ2 H2 fun b H3 =>
      if b = true then te σ2 H3 fun y H4 => ∃ acc, H4 D = some (.lst acc) ∧ acc.length < sizeLine ∧ Pv (i + 1) D (upd H4 D (.lst (acc ++ [y]))) else Pv (i + 1) D H3) (hd : ∀ D H', H D = none → Pv n D H' → Q (.ref D) H') : LcR lo n g tt te vs σ H Q :=
  fun D hD => lc_range (Qd := fun H' => Q (.ref D) H') (fun i H => Pv i D H) (h0 D hD) (hs D) (fun H' p => hd D H' hD p)
theorem rd_yes {QT : Bool → Hp → Prop} : tYes σ H QT = QT true H := rfl
theorem rd_sl {r : V → Option Int → Option Int → Hp → VK → Prop} {tlo thi : L2.St → Hp → (Option Int → Hp → Prop) → Prop} : tSl r te tlo thi σ H Q = te σ H fun x H1 => tlo σ H1 fun l H2 => thi σ H2 fun u H3 => r x l u H3 Q := rfl
theorem rd_noPart {QO : Option Int → Hp → Prop} : tNoPart σ H QO = QO none H := rfl
theorem rd_part {QO : Option Int → Hp → Prop} : tPart te σ H QO = te σ H fun x H1 => ∃ i, x = .int i ∧ QO (some i) H1 := rfl
theorem rd_slL {x : V} {lo hi : Option Int} : rSlL K x lo hi H Q = ∃ a xs, x = .ref a ∧ SqL K H a xs ∧ ∀ p, H p = none → Q (.ref p) (upd H p (.lst (cutV xs lo hi))) := rfl
end
/-! ### isinstance of a built-in class -/
theorem isi_mk {K : PySem.W.Frag} {x : V} {T t : String} {b : Bool} {H : Hp} {Q : VK} (ty : TyX K H x (.type t)) (e : kitB t T = some b) (q : Q (.bl b) H) : rIsi K [x, .ty T] H Q := ⟨x, .ty T, _, _, b, rfl, .ty T, ty, kit_ty e, q⟩
/-! ### the same with the next turn's word a letter (simp doesn't read it) -/
section
variable {K : PySem.W.Frag} {a : Addr} {xs : List V} {g : TG} {tb : TS} {D : Ends} {σ : L2.St} {H : Hp} {te : TE} {ta : TA} {tt : TT} {vs : List Nat} {Q : VK}
theorem while_w {c : TT} (Pw : L2.St → Hp → Prop) (μ : L2.St → Hp → Nat) (h0 : Pw σ H)
    (hs : ∀ σ H, Pw σ H → ∀ N : L2.St → Hp → Prop, (∀ σ' H', Pw σ' H' → μ σ' H' < μ σ H → N σ' H') →
      ∃ b : Bool, (∀ Q : Bool → Hp → Prop, Q b H → c σ H Q) ∧ (b = true → tb { D with nx := N, ct := N, bk := D.nx } σ H) ∧ (b = false → D.nx σ H)) : tWhile c tb D σ H :=
  while_mk Pw μ h0 fun σ H p => hs σ H p _ fun _ _ h1 h2 => ⟨h1, h2⟩
theorem ForL.w (Pw : Nat → L2.St → Hp → Prop) (h0 : Pw 0 σ H) (hl : ∀ i σ H, i ≤ xs.length → Pw i σ H → SqL K H a xs)
    (hs : ∀ i x σ H, xs[i]? = some x → Pw i σ H → ∀ N : L2.St → Hp → Prop, (∀ σ' H', Pw (i + 1) σ' H' → N σ' H') → g x σ H fun σ2 H2 => tb { D with nx := N, ct := N, bk := D.nx } σ2 H2) (hd : ∀ σ H, Pw xs.length σ H → D.nx σ H) : ForL K a g tb D σ H :=
  ForL.mk Pw h0 hl (fun i x σ H e p => hs i x σ H e p _ fun _ _ h => h) hd
theorem ForT.w (Pw : Nat → L2.St → Hp → Prop) (h0 : Pw 0 σ H) (hl : ∀ i σ H, i ≤ xs.length → Pw i σ H → SqT K H a xs)
    (hs : ∀ i x σ H, xs[i]? = some x → Pw i σ H → ∀ N : L2.St → Hp → Prop, (∀ σ' H', Pw (i + 1) σ' H' → N σ' H') → g x σ H fun σ2 H2 => tb { D with nx := N, ct := N, bk := D.nx } σ2 H2) (hd : ∀ σ H, Pw xs.length σ H → D.nx σ H) : ForT K a g tb D σ H :=
  ForT.mk Pw h0 hl (fun i x σ H e p => hs i x σ H e p _ fun _ _ h => h) hd
theorem ForR.w {lo : Int} {n : Nat} (Pw : Nat → L2.St → Hp → Prop) (h0 : Pw 0 σ H)
    (hs : ∀ i σ H, i < n → Pw i σ H → ∀ N : L2.St → Hp → Prop, (∀ σ' H', Pw (i + 1) σ' H' → N σ' H') → g (.int (lo + i)) σ H fun σ2 H2 => tb { D with nx := N, ct := N, bk := D.nx } σ2 H2) (hd : ∀ σ H, Pw n σ H → D.nx σ H) : ForR lo n g tb D σ H :=
  ForR.mk Pw h0 (fun i σ H e p => hs i σ H e p _ fun _ _ h => h) hd
theorem ForC.w {lo c : Int} {n : Nat} (Pw : Nat → L2.St → Hp → Prop) (h0 : Pw 0 σ H)
    (hs : ∀ i σ H, i < n → Pw i σ H → ∀ N : L2.St → Hp → Prop, (∀ σ' H', Pw (i + 1) σ' H' → N σ' H') → g (.int (lo + (i : Nat) * c)) σ H fun σ2 H2 => tb { D with nx := N, ct := N, bk := D.nx } σ2 H2) (hd : ∀ σ H, Pw n σ H → D.nx σ H) : ForC lo c n g tb D σ H :=
  ForC.mk Pw h0 (fun i σ H e p => hs i σ H e p _ fun _ _ h => h) hd
/-- a comprehension: Pw turn D made heap: the list at D holds made -/
theorem LcL.w (Pw : Nat → Addr → List V → Hp → Prop) (h0 : ∀ D, H D = none → Pw 0 D [] (upd H D (.lst []))) (hl : ∀ D i ys H, i ≤ xs.length → Pw i D ys H → SqL K H a xs)
    (hs : ∀ D i x ys H, xs[i]? = some x → Pw i D ys H → ∀ N : Hp → Prop, (∀ ys' H', Pw (i + 1) D ys' H' → N H') → g x (wipe σ vs) H fun σ2 H2 => wipe σ2 vs = wipe σ vs ∧ tt σ2 H2 fun b H3 =>
      if b = true then te σ2 H3 fun y H4 => ∃ acc, H4 D = some (.lst acc) ∧ acc.length < sizeLine ∧ N (upd H4 D (.lst (acc ++ [y]))) else N H3) (hd : ∀ D ys H', H D = none → Pw xs.length D ys H' → Q (.ref D) H') : LcL K a g tt te vs σ H Q :=
  LcL.mk (xs := xs) (fun i D H => ∃ ys, Pw i D ys H) (fun D n => ⟨[], h0 D n⟩) (fun D i H hi ⟨ys, p⟩ => hl D i ys H hi p) (fun D i x H e ⟨ys, p⟩ => hs D i x ys H e p _ fun ys' H' h => ⟨ys', h⟩) (fun D H' n ⟨ys, p⟩ => hd D ys H' n p)
theorem LcT.w (Pw : Nat → Addr → List V → Hp → Prop) (h0 : ∀ D, H D = none → Pw 0 D [] (upd H D (.lst []))) (hl : ∀ D i ys H, i ≤ xs.length → Pw i D ys H → SqT K H a xs)
    (hs : ∀ D i x ys H, xs[i]? = some x → Pw i D ys H → ∀ N : Hp → Prop, (∀ ys' H', Pw (i + 1) D ys' H' → N H') → g x (wipe σ vs) H fun σ2 H2 => wipe σ2 vs = wipe σ vs ∧ tt σ2 H2 fun b H3 =>
      if b = true then te σ2 H3 fun y H4 => ∃ acc, H4 D = some (.lst acc) ∧ acc.length < sizeLine ∧ N (upd H4 D (.lst (acc ++ [y]))) else N H3) (hd : ∀ D ys H', H D = none → Pw xs.length D ys H' → Q (.ref D) H') : LcT K a g tt te vs σ H Q :=
  LcT.mk (xs := xs) (fun i D H => ∃ ys, Pw i D ys H) (fun D n => ⟨[], h0 D n⟩) (fun D i H hi ⟨ys, p⟩ => hl D i ys H hi p) (fun D i x H e ⟨ys, p⟩ => hs D i x ys H e p _ fun ys' H' h => ⟨ys', h⟩) (fun D H' n ⟨ys, p⟩ => hd D ys H' n p)
theorem LcR.w {lo : Int} {n : Nat} (Pw : Nat → Addr → List V → Hp → Prop) (h0 : ∀ D, H D = none → Pw 0 D [] (upd H D (.lst [])))
    (hs : ∀ D i ys H, i < n → Pw i D ys H → ∀ N : Hp → Prop, (∀ ys' H', Pw (i + 1) D ys' H' → N H') → g (.int (lo + i)) (wipe σ vs) H fun σ2 H2 => wipe σ2 vs = wipe σ vs ∧ tt σ2 H2 fun b H3 =>
      if b = true then te σ2 H3 fun y H4 => ∃ acc, H4 D = some (.lst acc) ∧ acc.length < sizeLine ∧ N (upd H4 D (.lst (acc ++ [y]))) else N H3) (hd : ∀ D ys H', H D = none → Pw n D ys H' → Q (.ref D) H') : LcR lo n g tt te vs σ H Q :=
  LcR.mk (fun i D H => ∃ ys, Pw i D ys H) (fun D n => ⟨[], h0 D n⟩) (fun D i H e ⟨ys, p⟩ => hs D i ys H e p _ fun ys' H' h => ⟨ys', h⟩) (fun D H' n ⟨ys, p⟩ => hd D ys H' n p)
end
theorem rd_max2 {xs : List V} {H : Hp} {Q : VK} : (fun (xs : List V) (H : Hp) (Q : VK) => ∃ i j : Int, xs = [.int i, .int j] ∧ Q (.int (if j > i then j else i)) H) xs H Q = ∃ i j : Int, xs = [.int i, .int j] ∧ Q (.int (if j > i then j else i)) H := rfl
theorem rd_wipe0 {σ : L2.St} : wipe σ [] = σ := rfl
theorem rd_wipe1 {σ : L2.St} {v : Nat} {vs : List Nat} : wipe σ (v :: vs) = (wipe σ vs).set v none := rfl
theorem rd_eqD {K : PySem.W.Frag} {x y : V} {H : Hp} {Q : VK} : rEqD K x y H Q = ∃ d e, Dp K H x d ∧ Dp K H y e ∧ SeqAt.shaped d = true ∧ SeqAt.shaped e = true ∧ Q (.bl (PyData.eqv d e)) H := rfl
theorem rd_neD {K : PySem.W.Frag} {x y : V} {H : Hp} {Q : VK} : rNeD K x y H Q = ∃ d e, Dp K H x d ∧ Dp K H y e ∧ SeqAt.shaped d = true ∧ SeqAt.shaped e = true ∧ Q (.bl (!PyData.eqv d e)) H := rfl
theorem rd_rep {x y : V} {H : Hp} {Q : VK} : rRep x y H Q = ∃ l k xs, x = .ref l ∧ y = .int k ∧ H l = some (.lst xs) ∧ -(2 ^ 63) ≤ k ∧ k < 2 ^ 63 ∧ xs.length * k.toNat ≤ sizeLine ∧ ∀ p, H p = none → Q (.ref p) (upd H p (.lst (List.replicate k.toNat xs).flatten)) := rfl
theorem dp_ints {K : PySem.W.Frag} {H : Hp} : ∀ l : List Int, DpAll K H (l.map V.int) (l.map PyData.int)
  | [] => .nil
  | i :: l => .cons (.int i) (dp_ints l)
theorem dp_strs {K : PySem.W.Frag} {H : Hp} : ∀ l : List Str, DpAll K H (l.map V.str) (l.map PyData.str)
  | [] => .nil
  | i :: l => .cons (.str i) (dp_strs l)
end CB
/-! sorted of a list of triples of ints, any number of them -/
namespace CB
open PySem PyProof.Rows Srt SrtO L2
abbrev T3 := Int × Int × Int
def lexT (p q : T3) : Bool := if p.1 = q.1 then lexB p.2 q.2 else decide (p.1 < q.1)
theorem lexT_iff {p q : T3} : lexT p q = true ↔ p.1 < q.1 ∨ (p.1 = q.1 ∧ (p.2.1 < q.2.1 ∨ (p.2.1 = q.2.1 ∧ p.2.2 < q.2.2))) := by
  unfold lexT
  by_cases e : p.1 = q.1
  · rw [if_pos e, lexB_iff]
    omega
  · rw [if_neg e, decide_eq_true_eq]
    omega
theorem lexT_no {p q : T3} : lexT p q = false ↔ ¬ (p.1 < q.1 ∨ (p.1 = q.1 ∧ (p.2.1 < q.2.1 ∨ (p.2.1 = q.2.1 ∧ p.2.2 < q.2.2)))) := by
  rw [← lexT_iff]
  cases lexT p q <;> simp
theorem swo_T {α : Type} (k : α → T3) : Swo fun v u => lexT (k v) (k u) := by
  refine ⟨fun x y h => ?_, fun x y z h1 h2 => ?_⟩
  · have a := lexT_iff.mp h
    refine lexT_no.mpr ?_
    omega
  · have a := lexT_no.mp h1
    have b := lexT_no.mp h2
    refine lexT_no.mpr ?_
    omega
theorem lexT_eq {p q : T3} (h1 : lexT p q = false) (h2 : lexT q p = false) : p = q := by
  have a := lexT_no.mp h1
  have b := lexT_no.mp h2
  obtain ⟨p1, p2, p3⟩ := p
  obtain ⟨q1, q2, q3⟩ := q
  simp only at a b
  have e1 : p1 = q1 := by omega
  have e2 : p2 = q2 := by omega
  have e3 : p3 = q3 := by omega
  rw [e1, e2, e3]
/-- two sorted rearrangements of triples are one -/
theorem srtT_uniq : ∀ {l m : List T3}, l.Pairwise (fun p q => lexT q p = false) → m.Pairwise (fun p q => lexT q p = false) → l.Perm m → l = m := fun {l m} h1 h2 h => by
  refine List.Perm.eq_of_pairwise (le := fun p q => lexT q p = false) (fun a b _ _ x y => lexT_eq y x) h1 h2 h
section
variable {prog : Program} {w : World} {A : Around} {E : Value → Shared → Prop} {s : Shared}
def IsTrip (h : Heap) (v : Value) (k : T3) : Prop := ∃ a o t u r n, v = .ref a ∧ h.get? a = some o ∧ o.cls = .type "tuple" ∧ o.data = .seq #[.int k.1 t, .int k.2.1 u, .int k.2.2 r] n
theorem IsTrip.keeps {h h' : Heap} {v : Value} {k : T3} (p : IsTrip h v k) (kk : ∀ b o, h.get? b = some o → o.cls = .type "tuple" → h'.get? b = some o) : IsTrip h' v k := by
  obtain ⟨a, o, t, u, r, n, e, ho, hc, hd⟩ := p
  exact ⟨a, o, t, u, r, n, e, kk _ _ ho hc, hc, hd⟩
theorem firstsT {h : Heap} : ∀ {vs : List Value}, (∀ v ∈ vs, ∃ k, IsTrip h v k) → ∃ fs : List Value, PySem.W.KatTups h vs fs ∧ fs.length = vs.length ∧ ∀ f ∈ fs, ∃ x t, f = Value.int x t
  | [], _ => ⟨[], PySem.W.KatTups.nil, rfl, fun _ hm => by simp at hm⟩
  | v :: vs, hp => by
    obtain ⟨fs, h1, h2, h3⟩ := firstsT (vs := vs) fun v' hm => hp v' (List.mem_cons_of_mem _ hm)
    obtain ⟨k, a, o, t, u, r, n, e, ho, hc, hd⟩ := hp v (List.mem_cons_self ..)
    subst e
    refine ⟨.int k.1 t :: fs, PySem.W.KatTups.cons ho hc hd rfl h1, by rw [List.length_cons, List.length_cons, h2], fun f hm => ?_⟩
    rcases List.mem_cons.mp hm with rfl | hm
    · exact ⟨k.1, t, rfl⟩
    · exact h3 f hm
theorem trip_cmp {vs : List Value} {k : Value → T3} (hp : ∀ v ∈ vs, IsTrip s.heap v (k v)) : SrtO.Cmp prog w A s (tuples' true) (fun p => p.1 ∈ vs) (lt2 fun v u => lexT (k v) (k u)) := by
  intro p q hm hm'
  have h1 := hp _ hm
  have h2 := hp _ hm'
  show wpAny (model prog w) A (keyLt' (tuples' true) p.1 q.1) (fun r s' => s' = s ∧ r = lexT (k p.1) (k q.1)) (fun _ _ => False) s
  generalize k p.1 = kp at h1 ⊢
  generalize k q.1 = kq at h2 ⊢
  obtain ⟨x, y, z⟩ := kp
  obtain ⟨x', y', z'⟩ := kq
  obtain ⟨a, o, t, u, r, n, e, ho, hc, hd⟩ := h1
  obtain ⟨a', o', t', u', r', n', e', ho', hc', hd'⟩ := h2
  rw [e, e']
  simp only at hd hd'
  refine PySem.W.kat_lt ho hd ho' hd' ?_
  show PySem.W.KatLex prog w A true (decide (3 < 3)) _ [(.int x t, .int x' t'), (.int y u, .int y' u'), (.int z r, .int z' r')] 0 s
  refine PySem.W.kat_cons (SeqAt.EqAt.int_int x t x' t' prog w _ _ ?_)
  refine PySem.W.kat_go (fun e1 => ?_) (fun e1 => ?_)
  · have ex : x = x' := by simpa using e1
    refine PySem.W.kat_yes (PySem.W.kat_cons (SeqAt.EqAt.int_int y u y' u' prog w _ _ ?_))
    refine PySem.W.kat_go (fun e2 => ?_) (fun e2 => ?_)
    · have ey : y = y' := by simpa using e2
      refine PySem.W.kat_yes (PySem.W.kat_cons (SeqAt.EqAt.int_int z r z' r' prog w _ _ ?_))
      refine PySem.W.kat_go (fun e3 => ?_) (fun e3 => ?_)
      · have ez : z = z' := by simpa using e3
        have e4 : lexT (x, y, z) (x', y', z') = false := lexT_no.mpr (by simp only; omega)
        exact PySem.W.kat_yes (PySem.W.kat_nil ⟨rfl, e4.symm⟩)
      · have e4 : lexT (x, y, z) (x', y', z') = decide (z < z') := by
          unfold lexT lexB
          simp only
          rw [if_pos ex, if_pos ey]
        refine PySem.W.kat_no (PySem.W.kat_one _ _ (PyProof.Rows.lt_int ?_))
        exact (show s = s ∧ decide (z < z') = lexT (x, y, z) (x', y', z') from ⟨rfl, e4.symm⟩)
    · have ey : ¬ y = y' := by simpa using e2
      have e4 : lexT (x, y, z) (x', y', z') = decide (y < y') := by
        unfold lexT lexB
        simp only
        rw [if_pos ex, if_neg ey]
      refine PySem.W.kat_no (PySem.W.kat_one _ _ (PyProof.Rows.lt_int ?_))
      exact (show s = s ∧ decide (y < y') = lexT (x, y, z) (x', y', z') from ⟨rfl, e4.symm⟩)
  · have ex : ¬ x = x' := by simpa using e1
    have e3 : lexT (x, y, z) (x', y', z') = decide (x < x') := by
      unfold lexT
      simp only
      rw [if_neg ex]
    exact PySem.W.kat_no (oneLt_int ⟨rfl, e3.symm⟩)
theorem trips_sortableO {a : Addr} {vs : List Value} {k : Value → T3} (h0 : 0 < vs.length) (hp : ∀ v ∈ vs, IsTrip s.heap v (k v)) (ha : ∀ o, s.heap.get? a = some o → o.cls ≠ .type "tuple") : SortableO prog w A s a vs fun v u => lexT (k v) (k u) := by
  intro h' keep
  have hp' : ∀ v ∈ vs, IsTrip h' v (k v) := fun v hm => (hp v hm).keeps fun b o e c => keep b o (fun z => by subst z; exact ha o e c) e
  obtain ⟨fs, h1, h2, h3⟩ := firstsT fun v hm => ⟨_, hp' v hm⟩
  refine ⟨tuples' true, fun Q E hq => ?_, trip_cmp hp'⟩
  refine PySem.W.kat_kind (T := .type "int") h1 (by omega) (fun f hm => ?_) (by rfl) ?_
  · obtain ⟨x, t, rfl⟩ := h3 f hm
    exact PySem.W.Looks.now
  · have e : (Value.type "int" != Value.type "tuple") = true := by first | decide +kernel | rfl | decide
    rw [e]
    exact hq
theorem sorted_tripsO {l : Addr} {vs : List Value} {k : Value → T3} {Q : Value → Shared → Prop} (hl : s.heap.IsList l vs.toArray) (hz : vs.length ≤ sizeLine) (hp : ∀ v ∈ vs, IsTrip s.heap v (k v))
    (h : ∀ (h' : Heap) (d : Addr) (out : List Value), Srtd (fun v u => lexT (k v) (k u)) out → Stb (fun v u => lexT (k v) (k u)) out vs → (∀ b o, s.heap.get? b = some o → h'.get? b = some o) → s.heap.objs.size ≤ d → (∃ n, h'.get? d = some (seqObj "list" out.toArray n)) → Q (.ref d) { s with heap := h' }) :
    wpAny (model prog w) A (call (.builtin "sorted") [.ref l]) Q E s := by
  refine sorted_ord (swo_T k) hl hz (fun h2 h₁ a ha kk => ?_) fun out hs hb => ?_
  · refine trips_sortableO (s := { s with heap := h₁ }) (by omega) (fun v hm => (hp v hm).keeps fun b o e _ => (kk b o e).2) fun o e => ?_
    have e' : some o = some (seqObj "list" vs.toArray 0) := e.symm.trans ha
    cases e'
    intro c
    exact absurd (Value.type.inj c) (by decide)
  · exact h _ _ out hs hb (fun b o e => sortedAll_old e) (Nat.le_succ _) (sortedAll_at s.heap vs out.toArray)
end
end CB
namespace CB
open PySem PySem.Spec PyProof.Rows L2
/-- the triple that stands at x -/
def kT (H : Hp) : V → T3
  | .ref r => match H r with
    | some (.tup [.int a, .int b, .int c]) => (a, b, c)
    | _ => (0, 0, 0)
  | _ => (0, 0, 0)
def IsT3 (H : Hp) (x : V) : Prop := ∃ r a b c, x = V.ref r ∧ H r = some (.tup [.int a, .int b, .int c])
theorem IsT3.at {H : Hp} {x : V} (h : IsT3 H x) : ∃ r, x = V.ref r ∧ H r = some (.tup [.int (kT H x).1, .int (kT H x).2.1, .int (kT H x).2.2]) := by
  obtain ⟨r, a, b, c, rfl, e⟩ := h
  refine ⟨r, rfl, ?_⟩
  have q : kT H (V.ref r) = (a, b, c) := by
    show (match H r with
      | some (.tup [.int a, .int b, .int c]) => (a, b, c)
      | _ => (0, 0, 0)) = _
    rw [e]
  rw [q, e]
/-- the list of triples that stand at the xs -/
def Trs (H : Hp) (xs : List V) (ts : List T3) : Prop := (∀ x ∈ xs, IsT3 H x) ∧ ts = xs.map (kT H)
theorem kT_same {H H' : Hp} (s : Same H H') {x : V} (h : IsT3 H x) : kT H' x = kT H x ∧ IsT3 H' x := by
  obtain ⟨r, a, b, c, rfl, e⟩ := h
  have e' := s _ _ e
  refine ⟨?_, r, a, b, c, rfl, e'⟩
  show (match H' r with
      | some (.tup [.int a, .int b, .int c]) => (a, b, c)
      | _ => (0, 0, 0)) = (match H r with
      | some (.tup [.int a, .int b, .int c]) => (a, b, c)
      | _ => (0, 0, 0))
  rw [e, e']
theorem Trs.same {H H' : Hp} {xs : List V} {ts : List T3} (s : Same H H') (h : Trs H xs ts) : Trs H' xs ts := by
  obtain ⟨h1, rfl⟩ := h
  exact ⟨fun x m => (kT_same s (h1 x m)).2, List.map_congr_left fun x m => (kT_same s (h1 x m)).1.symm⟩
theorem Trs.keep {H H' : Hp} {xs : List V} {ts : List T3} (s : ∀ r a b c, H r = some (.tup [.int a, .int b, .int c]) → H' r = some (.tup [.int a, .int b, .int c])) (h : Trs H xs ts) : Trs H' xs ts := by
  obtain ⟨h1, rfl⟩ := h
  refine ⟨fun x m => ?_, List.map_congr_left fun x m => ?_⟩
  · obtain ⟨r, a, b, c, e, q⟩ := h1 x m
    exact ⟨r, a, b, c, e, s _ _ _ _ q⟩
  · obtain ⟨r, a, b, c, rfl, q⟩ := h1 x m
    show (match H r with
      | some (.tup [.int a, .int b, .int c]) => (a, b, c)
      | _ => (0, 0, 0)) = (match H' r with
      | some (.tup [.int a, .int b, .int c]) => (a, b, c)
      | _ => (0, 0, 0))
    rw [q, s _ _ _ _ q]
theorem same_at {H H1 : Hp} {f : Addr} {o : HO} (s : Same H H1) (n : H f = none) : Same H (upd H1 f o) := fun b x e => by
  rw [upd_ne (ne_of_none e n)]
  exact s b x e
theorem Trs.updL {H : Hp} {f : Addr} {l : List V} {o : HO} {xs : List V} {ts : List T3} (h : Trs H xs ts) (e : H f = some (.lst l)) : Trs (upd H f o) xs ts :=
  h.keep fun r a b c q => by rw [upd_ne (ne_of q e (by intro z; cases z))]; exact q
theorem Trs.updN {H : Hp} {f : Addr} {o : HO} {xs : List V} {ts : List T3} (h : Trs H xs ts) (e : H f = none) : Trs (upd H f o) xs ts := h.same (same_upd e)
theorem Trs.nil {H : Hp} : Trs H [] [] := ⟨fun x m => by simp at m, rfl⟩
theorem Trs.snoc {H : Hp} {xs : List V} {ts : List T3} {r : Addr} {a b c : Int} (h : Trs H xs ts) (e : H r = some (.tup [.int a, .int b, .int c])) : Trs H (xs ++ [.ref r]) (ts ++ [(a, b, c)]) := by
  obtain ⟨h1, rfl⟩ := h
  refine ⟨fun x m => ?_, ?_⟩
  · rcases List.mem_append.mp m with m | m
    · exact h1 x m
    · rw [List.mem_singleton.mp m]
      exact ⟨r, a, b, c, rfl, e⟩
  · rw [List.map_append]
    show _ = _ ++ [kT H (.ref r)]
    have q : kT H (V.ref r) = (a, b, c) := by
      show (match H r with
        | some (.tup [.int a, .int b, .int c]) => (a, b, c)
        | _ => (0, 0, 0)) = _
      rw [e]
    rw [q]
theorem Trs.get {H : Hp} {xs : List V} {ts : List T3} {i : Nat} {x : V} (h : Trs H xs ts) (e : xs[i]? = some x) : ∃ r a b c, x = .ref r ∧ H r = some (.tup [.int a, .int b, .int c]) ∧ ts[i]? = some (a, b, c) := by
  obtain ⟨h1, rfl⟩ := h
  obtain ⟨r, e1, e2⟩ := (h1 x (List.mem_of_getElem? e)).at
  exact ⟨r, _, _, _, e1, e2, by rw [List.getElem?_map, e]; rfl⟩
theorem Trs.len {H : Hp} {xs : List V} {ts : List T3} (h : Trs H xs ts) : ts.length = xs.length := by
  rw [h.2, List.length_map]
/-- sorted(xs), xs a list of triples of ints -/
def rSorted3 (K : PySem.W.Frag) : List V → Hp → VK → Prop := fun vs H Q => ∃ (a : Addr) (xs : List V) (ts : List T3), vs = [V.ref a] ∧ SqL K H a xs ∧ Trs H xs ts ∧
  ∀ ys us p, Trs H ys us → us.Pairwise (fun p q => lexT q p = false) → us.Perm ts → H p = none → Q (.ref p) (upd H p (.lst ys))
section
variable {X : Cx}
theorem cr_sorted3 : CallR X (.builtin "sorted") (rSorted3 X.K) := by
  intro pins s σ H vs us Q I r h
  obtain ⟨a, xs, ts, rfl, hs, ⟨hx, rfl⟩, q⟩ := h
  obtain ⟨its, rv, hl, hz⟩ := I.list hs
  obtain ⟨u, rfl, ru⟩ := vals1 r
  obtain rfl : u = Value.ref a := ru
  obtain ⟨e1, e2⟩ := refs_back rv fun x m => by
    obtain ⟨t, e, _⟩ := (hx x m).at
    exact ⟨t, e⟩
  refine sorted_tripsO (k := fun u => kT H (backV u)) hl.isList (by rw [← rv.length]; exact hz) (fun v hv => ?_) fun h' d out h1 h2 kp hd hn => ?_
  · obtain ⟨t, rfl⟩ := e2 v hv
    have hm : V.ref t ∈ xs := by rw [e1]; exact List.mem_map.mpr ⟨_, hv, rfl⟩
    obtain ⟨t', e, ht⟩ := (hx _ hm).at
    cases e
    obtain ⟨_, its2, r2, o, ho, hc, n, hd⟩ := I.hok _ _ ht
    cases r2 with
    | cons ra r2 =>
      cases r2 with
      | cons rb r2 =>
        cases r2 with
        | cons rc r2 =>
          cases r2
          obtain ⟨t1, rfl⟩ := ra
          obtain ⟨t2, rfl⟩ := rb
          obtain ⟨t3, rfl⟩ := rc
          exact ⟨t, o, t1, t2, t3, n, rfl, ho, hc, hd⟩
  · have h3 : ∀ u ∈ out, ∃ a, u = Value.ref a := fun u hu => e2 u (h2.perm.mem_iff.mp hu)
    obtain ⟨n, hn⟩ := hn
    have hp : (out.map backV).Perm xs := by
      rw [e1]
      exact h2.perm.map backV
    have hT : ∀ x ∈ out.map backV, IsT3 H x := fun x m => hx x (hp.mem_iff.mp m)
    have hS : ((out.map backV).map (kT H)).Pairwise (fun p q => lexT q p = false) := by
      rw [List.pairwise_map, List.pairwise_map]
      exact h1
    refine ⟨.ref d, upd H d (.lst (out.map backV)), I.laid (t' := s.toks) kp hd ⟨?_, out, n, vals_back h3, hn⟩, rfl, q _ _ d ⟨hT, rfl⟩ hS (hp.map (kT H)) (I.hok.fresh hd)⟩
    rw [hp.length_eq]
    exact hz
end
section
variable {H : Hp} {Q : VK} {K : PySem.W.Frag} {vs : List V}
theorem rd_sorted3 : rSorted3 K vs H Q = ∃ (a : Addr) (xs : List V) (ts : List T3), vs = [V.ref a] ∧ SqL K H a xs ∧ Trs H xs ts ∧
  ∀ ys us p, Trs H ys us → us.Pairwise (fun p q => lexT q p = false) → us.Perm ts → H p = none → Q (.ref p) (upd H p (.lst ys)) := rfl
end
end CB
/-! try with several clauses, each with a name or without -/
namespace CB
open PySem PySem.Spec PyProof.Rows L2
abbrev Cl := Value × Option Nat × (Addr → Value → Option Addr → TS)
def endA (i : Option Nat) (D : Ends) : Ends := match i with
  | none => D
  | some i => { nx := fun p q => D.nx (p.set i none) q, rt := D.rt, bk := fun p q => D.bk (p.set i none) q, ct := fun p q => D.ct (p.set i none) q }
def setA (i : Option Nat) (p : L2.St) (a : Addr) : L2.St := match i with
  | none => p
  | some i => p.set i (some (.ref a))
def wA (K : PySem.W.Frag) (Wo : WX) (D : Ends) : List Cl → WX
  | [] => Wo
  | (c, i, ts) :: r => fun cls d p H => ∃ b, PySem.W.exmOne K cls c = some b ∧ (b = true → ∀ a, H a = none → ts a cls d (endA i D) (setA i p a) H) ∧ (b = false → wA K Wo D r cls d p H)
/-- the clauses of the text -/
inductive HdA (X : Cx) : List ExceptHandler → List Cl → Prop
  | nil : HdA X [] []
  | bare {x : Str} {c : Value} {ts : Addr → Value → Option Addr → TS} {b1 : Stmt} {su : List Stmt} {np pp : Pos} {hs : List ExceptHandler} {l : List Cl} (hc : Names X x c)
      (hw : ∀ (a : Addr) (o : Obj) (cls : Value) (d : Option Addr) (pn : List (Addr × Obj)), Zc cls d o → (∃ vs, o.data = .fields vs) → PSs (X.suite a ((a, o) :: pn)) (b1 :: su) (ts a cls d)) (r : HdA X hs l) :
      HdA X (.ExceptHandler (some (.Name x np)) none (b1 :: su) pp :: hs) ((c, none, ts) :: l)
  | named {x n : Str} {c : Value} {i : Nat} {ts : Addr → Value → Option Addr → TS} {b1 : Stmt} {su : List Stmt} {np pp : Pos} {hs : List ExceptHandler} {l : List Cl} (hc : Names X x c) (hi : X.N[i]? = some n) (hn : X.env.kindOf n = some .local)
      (hw : ∀ (a : Addr) (o : Obj) (cls : Value) (d : Option Addr) (pn : List (Addr × Obj)), Zc cls d o → (∃ vs, o.data = .fields vs) → PSs (X.suite a ((a, o) :: pn)) (b1 :: su) (ts a cls d)) (r : HdA X hs l) :
      HdA X (.ExceptHandler (some (.Name x np)) (some n) (b1 :: su) pp :: hs) ((c, some i, ts) :: l)
section
variable {X : Cx} {body : List Stmt} {h1 : ExceptHandler} {hs : List ExceptHandler} {l : List Cl} {pos : Pos} {tb : WX → TS} {Wo : WX}
theorem ps_tryA (hst : X.stack = X.env :: X.outer) (hf : X.env.frame = some X.env.locals) (hN : X.N.Nodup) (tk : Takes X Wo)
    (hb : ∀ (W : WX) (pn : List (Addr × Obj)) (xe : Value → Shared → Prop), Takes (X.tr pn xe) W → PassesOwn (model X.prog X.w) X.A X.env xe → PSs (X.tr pn xe) body (tb W))
    (hh : HdA X (h1 :: hs) l) : PS X (.Try body (h1 :: hs) [] [] pos) (fun D p H => tb (wA X.K Wo D l) D p H) := by
  refine ⟨fun pins s p H D I hgo => ?_⟩
  have ok := I.ok
  have frm : X.A.frames = some (X.env :: X.outer) := by rw [ok.frames, hst]
  refine wpAny_Try_except (wpAny_mono ((hb (wA X.K Wo D l) (X.pn ++ pins) (fun e s₁ => wpAny (model X.prog X.w) X.A (noteFrame e X.env) (fun _ s₂ => wpAny (model X.prog X.w) X.A (setFlight e none) (fun _ s₃ => wpAny (model X.prog X.w) X.A (handleBy e X.env (h1 :: hs)) (SP X pins D) X.xe s₃) X.xe s₂) X.xe s₁)
    (fun u s' xx => ?_) PassesOwn.looking).run [] s p H D (I.toTry _) hgo) (fun f s1 hsp => ?_) (fun e s1 he => he))
  · obtain ⟨a, B, sI, pins', p', H', cls, d, rfl, Jt, nb, up, sky, na, os, ag, wish⟩ := xx
    have J : Inv X pins p' H' sI := Jt.ofTry ok
    have skyB : Sky B (X.env :: X.outer) a (Zc cls d) X.env.locals s'.heap := by rw [← hst]; exact sky
    show wpAny (model X.prog X.w) X.A (noteFrame (.ref a) X.env) _ _ _
    refine Sky.land Zc.steady frm hf skyB fun hp3 fl3 up3 => ?_
    have J3 : Inv X pins p' H' { s' with heap := hp3 } := J.landed nb fl3.1 (up.trans up3) os ag
    obtain ⟨o3, v3, g3, z3, d3⟩ := fl3.there
    have out : ∀ {hp : Heap} {o : Obj} {vs : Array Value}, hp.FunFrames B (X.env :: X.outer) → hp.get? a = some o → o.data = .fields vs → a ∉ frs (X.env :: X.outer) := fun {hp o vs} ff e dd hm => by
      obtain ⟨_, o', e', hnf⟩ := ff.mem hm; rw [e] at e'; cases e'; exact hnf _ dd
    have nfr := out fl3.2.2.1 g3 d3
    have nL : a ≠ X.env.locals := fun z => nfr (List.mem_filterMap.mpr ⟨X.env, List.mem_cons_self, by rw [hf, z]⟩)
    have nF : a ∉ X.fs := fun hm => by obtain ⟨e, he, q⟩ := List.mem_filterMap.mp hm; exact nfr (List.mem_filterMap.mpr ⟨e, List.mem_cons_of_mem _ he, q⟩)
    have S3 := J3.suite g3 d3 na nL nF
    have LT : PySem.W.Looks (model X.prog X.w) hp3 (typeOf (.ref a)) cls := fun A Q E s k q => wpAny_typeOf_ref (k _ _ g3) (by rw [z3.1]; exact q)
    have test : ∀ {x : Str} {np : Pos} {c : Value} (hc : Names X x c) {Q : Value → Shared → Prop} {E : Value → Shared → Prop}, Q c { s' with heap := hp3 } → wpAny (model X.prog X.w) (X.A.mark (some (.ref a))) (eval (.Name x np) X.env) Q E { s' with heap := hp3 } := fun {x np c} hc {Q E} q => by
      obtain ⟨hg, hdb, hm | ⟨hm, hv, hnn⟩⟩ := hc
      · exact ld_glob (X := X.suite a ((a, o3) :: (X.pn ++ pins))) S3 hg hm q hdb
      · exact ld_blt (X := X.suite a ((a, o3) :: (X.pn ++ pins))) S3 hg hm hv q hnn hdb
    have go : ∀ {hs' : List ExceptHandler} {l' : List Cl}, HdA X hs' l' → wA X.K Wo D l' cls d p' H' → wpAny (model X.prog X.w) X.A (handleBy (.ref a) X.env hs') (SP X pins D) X.xe { s' with heap := hp3 } := by
      intro hs' l' hk
      induction hk with
      | nil =>
        intro w
        refine wpAny_handleBy_nil ?_
        obtain ⟨k1, k2, k3, oe, vs, T, oT, ts', he, hz, hd, h1', hr⟩ := id fl3
        unfold PySem.passOn
        refine wpAny_bind (wpAny_field he hd h1' ?_)
        rw [if_neg (show ¬ ((Value.ref T == Value.none) = true) from by simp)]
        have fin : wpAny (model X.prog X.w) X.A (setFlight (.ref a) X.env.frame) (fun _ s4 => wpAny (model X.prog X.w) X.A (throw (.ref a) : Sem Flow) (SP X pins D) X.xe s4) X.xe { s' with heap := hp3 } := by
          rw [hf]
          refine HandSPX.setFlight_upZ fl3 fun h4 hh4 up4 => wpAny_throw (tk _ _ ?_)
          exact ⟨a, B, sI, pins, p', H', cls, d, rfl, J, nb, (up.trans up3).trans up4, .inr (.inr (by rw [hst]; exact hh4)), na, os, ag, w⟩
        first | exact wpAny_bind (wpAny_pure (wpAny_bind fin)) | exact wpAny_bind fin
      | @bare x c ts b1 su np pp hs2 l2 hc hw r ih =>
        intro w
        obtain ⟨b, hb1, hyes, hno⟩ := w
        refine wpAny_handleBy_cons (codeAny_handlers_test ?_) (by intro q; cases q)
        have LM := PySem.W.exm_one (M := model X.prog X.w) (J3.kIn) LT hb1
        refine test hc (LM.here ?_)
        cases b with
        | true =>
          refine codeAny_handlers_suite (HandSPX.lands_againZ fl3 fun h4 fl4 up4 => ?_)
          have J4 : Inv X pins p' H' { s' with heap := h4 } := J.landed nb fl4.1 ((up.trans up3).trans up4) os ag
          obtain ⟨o4, v4, g4, z4, d4⟩ := fl4.there
          have S4 := J4.suite g4 d4 na nL nF
          refine wpAny_mono ((hw a o4 cls d (X.pn ++ pins) z4 ⟨_, d4⟩).run [] _ _ H' _ S4 (hyes rfl a na)) (fun f s6 hsp => ?_) (fun _ _ z => False.elim z)
          cases f with
          | ret u => obtain ⟨v6, p6, H6, S6, r6, q6⟩ := hsp; exact ⟨_, _, _, S6.unsuite ok, r6, q6⟩
          | _ => obtain ⟨p6, H6, S6, q6⟩ := hsp; exact ⟨_, _, S6.unsuite ok, q6⟩
        | false => exact ih (hno rfl)
      | @named x n c i ts b1 su np pp hs2 l2 hc hi hn hw r ih =>
        intro w
        obtain ⟨b, hb1, hyes, hno⟩ := w
        refine wpAny_handleBy_cons (codeAny_handlers_test ?_) (by intro q; cases q)
        have LM := PySem.W.exm_one (M := model X.prog X.w) (J3.kIn) LT hb1
        refine test hc (LM.here ?_)
        cases b with
        | true =>
          refine codeAny_handlers_suite_as (HandSPX.lands_againZ fl3 fun h4 fl4 up4 => ?_)
          have J4 : Inv X pins p' H' { s' with heap := h4 } := J.landed nb fl4.1 ((up.trans up3).trans up4) os ag
          obtain ⟨o4, v4, g4, z4, d4⟩ := fl4.there
          have S4 := J4.suite g4 d4 na nL nF
          refine store_ok (X := X.suite a ((a, o4) :: (X.pn ++ pins))) (v := .ref a) S4 hN hi (.inl hn) rfl (fun s5 S5 => ?_) (.inr hn)
          refine wpAny_mono ((hw a o4 cls d (X.pn ++ pins) z4 ⟨_, d4⟩).run [] s5 _ H' _ S5 (hyes rfl a na)) (fun f s6 hsp => ?_) (fun _ _ z => False.elim z)
          have gone : ∀ {p6 : L2.St} {H6 : Hp} {Q : Shared → Prop}, Inv (X.suite a ((a, o4) :: (X.pn ++ pins))) [] p6 H6 s6 → (∀ s7, Inv X pins (p6.set i none) H6 s7 → Q s7) →
              wpAny (model X.prog X.w) X.A (do bindName X.env n .none; unbindBehindTheSuite X.env n pp) (fun _ s7 => Q s7) X.xe s6 := fun {p6 H6 Q} S6 hq => gone_ok (S6.unsuite ok) hN hi hn hq
          cases f with
          | ret u => obtain ⟨v6, p6, H6, S6, r6, q6⟩ := hsp; exact gone S6 fun s7 J7 => ⟨_, _, _, J7, r6, q6⟩
          | next => obtain ⟨p6, H6, S6, q6⟩ := hsp; exact gone S6 fun s7 J7 => ⟨_, _, J7, q6⟩
          | brk => obtain ⟨p6, H6, S6, q6⟩ := hsp; exact gone S6 fun s7 J7 => ⟨_, _, J7, q6⟩
          | cont => obtain ⟨p6, H6, S6, q6⟩ := hsp; exact gone S6 fun s7 J7 => ⟨_, _, J7, q6⟩
        | false => exact ih (hno rfl)
    exact go hh wish
  · cases f with
    | ret u => obtain ⟨v, p', H', J', r, q⟩ := hsp; exact ⟨v, p', H', J'.ofTry ok, r, q⟩
    | next => obtain ⟨p', H', J', q⟩ := hsp; exact wpAny_execs_nil ⟨p', H', J'.ofTry ok, q⟩
    | brk => obtain ⟨p', H', J', q⟩ := hsp; exact ⟨p', H', J'.ofTry ok, q⟩
    | cont => obtain ⟨p', H', J', q⟩ := hsp; exact ⟨p', H', J'.ofTry ok, q⟩
end
end CB
/-! the program's errors: Malformed (no own __init__), Refused (with its reason) -/
namespace CB
open PySem PySem.Spec PyProof.Rows L2
structure CalX (P : Program) (w : World) (K : PySem.W.Frag) (mg : Str → Option Value) (base : Heap) (x : Str) (k : Nat) (ps : List Str) (sp : Sp) : Prop where
  ok : ∃ f fd, FnOk P w K mg base (L2.CX P w) k f fd ps sp ∧ mg x = some (.ref f) ∧ PySem.W.keepIn K (.ref f) = true ∧ Binds K fd ps []
section
variable {P : Program} {w : World} {K : PySem.W.Frag} {mg : Str → Option Value} {base : Heap}
theorem Dn.calX {x : Str} {st : Stmt} {N ps : List Str} {k : Nat} {sp : Sp} (D : Dn K mg x st ps) (S : FnScope N ps (defScope st)) (len : ∀ vs H Q E, sp vs H Q E → vs.length = ps.length)
    (hbody : ∀ (f : Addr) (cdv : Value) (A : Around) (outer : List Env) (s : Shared) (H : Hp) (vs : List V) (Q : VK) (E : XK), Room k (A.deeper (envOfC x (defScope st) s.heap.objs.size f cdv)) → sp vs H Q E →
      ∃ t, PSs (cxOf (L2.CX P w) P w K mg base N x (defScope st) f cdv A outer s H E) (defBody st) t ∧ t { nx := fun _ H' => Q .non H', rt := Q } (start N vs) H) : CalX P w K mg base x (k + 1) ps sp := by
  obtain ⟨f, fd, F, hm, hb⟩ := D.ok
  exact ⟨f, fd, F.okX S len fun cdv A outer s H vs Q E hr h => hbody f cdv A outer s H vs Q E hr h, hm, F.kp, hb⟩
end
section
variable {X : Cx} {k : Nat} {ps : List Str} {sp : Sp} {x : Str} {p pos : Pos} {e : Expr} {es : List Expr} {t : TA} {W : WX}
/-- a call that may raise, W what is wished of what it raises -/
theorem pe_calS (C : CalX X.prog X.w X.K X.mg X.base x k ps sp) (tk : Takes X W) (hr : Room k X.A) (hg : Gl X x) (ha : PA X (e :: es) t) (hdb : (x == ("__debug__" : Str)) = false := by decide)
    (he : starEach (e :: es) X.env = (false, eval e X.env) :: starEach es X.env := by rfl) (hpl : (backTo pos (starEach es X.env)).any (·.1) = false := by rfl) : PE X (.Call (.Name x p) (e :: es) [] pos) (tCallS sp (WE W) t) := by
  obtain ⟨f, fd, F, hm, hk, hb⟩ := C.ok
  exact pe_callS F hr hg hm hk hb (fun σ => passAt tk σ) ha hdb he hpl
end
abbrev veB : List Value := [.type "ValueError", .type "Exception", .type "BaseException", .type "object"]
structure ErrM (K : PySem.W.Frag) (mg : Str → Option Value) (C : Addr) : Prop where
  g : mg "Malformed" = some (.ref C)
  x : PySem.W.excIn K C veB "ValueError.__new__" = true
  k : PySem.W.keepIn K (.ref C) = true
  b : PySem.W.subIn K (.ref C) (.type "BaseException") = some true
  t : PySem.W.typeIn K (.ref C) = some (.type "type")
  mm : PySem.W.exmOne K (.ref C) (.ref C) = some true
structure ErrR (K : PySem.W.Frag) (mg : Str → Option Value) (M C f : Addr) : Prop where
  g : mg "Refused" = some (.ref C)
  ox : OexC K C
  i : PySem.W.findIn K (.ref C) "__init__" = some (some (.ref f))
  t : PySem.W.typeIn K (.ref f) = some (.type "function")
  n : PySem.W.findIn K (.ref C) "reason" = some none
  xf : XfC K C
  rm : PySem.W.exmOne K (.ref C) (.ref M) = some false
  rr : PySem.W.exmOne K (.ref C) (.ref C) = some true
/-- Refused.__init__(self, reason) -/
def spRI (K : PySem.W.Frag) : Sp := fun vs H Q _ => ∃ (a C : Addr) (v : V), vs = [.ref a, v] ∧ OexC K C ∧ PySem.W.findIn K (.ref C) "reason" = some none ∧ H a = some (exo a C none) ∧
  ∀ dx, H dx = none → dx ≠ a → Q .non (upd (upd H dx (exd dx [("reason", v)])) a (exo a C (some dx)))
structure ErrI (P : Program) (w : World) (K : PySem.W.Frag) (mg : Str → Option Value) (base : Heap) (M C : Addr) : Prop where
  m : ErrM K mg M
  r : ∃ f fd, ErrR K mg M C f ∧ FnOk P w K mg base CX0 1 f fd ["self", "reason"] (spRI K) ∧ Binds K fd ["self", "reason"] []
section
variable {P : Program} {w : World} {K : PySem.W.Frag} {mg : Str → Option Value} {base : Heap} {M C : Addr}
end
/-- raise Malformed('..') -/
theorem ps_mal {X : Cx} {W : WX} {M : Addr} {m : Str} {j : Nat} {p p2 pos pp : Pos} (E : ErrM X.K X.mg M) (hc : X.calm = true) (tk : Takes X W) (hg : Gl X "Malformed") : PS X (.Raise (some (.Call (.Name "Malformed" p) [.Constant (.str m) j p2] [] pos)) none pp) (fun _ σ H => W (.ref M) none σ H) :=
  ps_raise hc tk (pmk_own PySem.F.excBase_ValueError E.x E.g E.k (raises_own E.b E.t) hg)
/-- raise Refused('..') -/
theorem ps_ref {X : Cx} {W : WX} {M C : Addr} {m : Str} {j : Nat} {p p2 pos pp : Pos} (E : ErrI X.prog X.w X.K X.mg X.base M C) (hc : X.calm = true) (tk : Takes X W) (hr : Room 2 X.A) (hg : Gl X "Refused") (hs : starEach [Expr.Constant (.str m) j p2] X.env = (false, eval (Expr.Constant (.str m) j p2) X.env) :: starEach [] X.env := by rfl)
    (hpl : (backTo pos (starEach [] X.env)).any (·.1) = false := by rfl) :
    PS X (.Raise (some (.Call (.Name "Refused" p) [.Constant (.str m) j p2] [] pos)) none pp) (fun _ σ H => ∀ d H', Same H H' → H d = none → H' d = some (.xd [("reason", .str m)]) → W (.ref C) (some d) σ H') := by
  obtain ⟨f, fd, R, F, b⟩ := E.r
  refine ⟨fun pins s σ H D I h => ?_⟩
  refine (ps_raise hc tk (pmk_oex R.ox R.i R.t F hr b .nil pass0 hg R.g (pa_cons pe_str pa_nil hs) rfl hs hpl)).run pins s σ H D I ?_
  show ([V.str m].length ≤ 1000 ∧ _)
  refine ⟨by show 1 ≤ 1000; decide, fun a na => ⟨a, C, .str m, rfl, R.ox, R.n, upd_same, fun dx ndx ne => ⟨rfl, dx, [("reason", .str m)], upd_same, ?_, ?_, ?_⟩⟩⟩
  · rw [upd_ne ne, upd_same]
  · rw [upd_ne ne] at ndx
    exact ndx
  · rw [upd_ne ne] at ndx
    refine h dx _ (fun b o e => ?_) ndx upd_same
    have hbd : b ≠ dx := ne_of_none e ndx
    have hba : b ≠ a := ne_of_none e na
    rw [upd_ne hbd, del_ne hba, upd_ne hba, upd_ne hbd, upd_ne hba]
    exact e
end CB
namespace CB
open PySem PySem.Spec PyProof.Rows L2
theorem exm_b {K : PySem.W.Frag} {S C : Addr} {b : Bool} (h1 : PySem.W.subIn K (.ref C) (.type "BaseException") = some true) (h2 : PySem.W.isClsIn K C = true) (h3 : PySem.W.typeIn K (.ref C) = some (.type "type")) (h4 : PySem.W.subIn K (.ref S) (.ref C) = some b) :
    PySem.W.exmOne K (.ref S) (.ref C) = some b := by
  unfold PySem.W.exmOne
  rw [if_pos (by rw [h1] <;> rfl)]
  show (if ((PySem.W.clsIn K C).isSome && PySem.W.typeIn K (.ref C) == some (.type "type")) = true then PySem.W.subIn K (.ref S) (.ref C) else none) = some b
  have h5 : (PySem.W.clsIn K C).isSome = true := h2
  rw [h5, h3, if_pos (by rfl)]
  exact h4
theorem dn_mk {K : PySem.W.Frag} {h : Heap} {mg : Str → Option Value} {x : Str} {st : Stmt} {ps : List Str} {f : Addr} {oc : Value} {od an : Option Addr} {osl : Array (Option Value)} {kV doc pm cdv ct : Value} (X : K.In h) (G : h.Ns mainGlobals mg)
    (a : PySem.W.nsIn K mainGlobals x = some (some (.ref f))) (l : K.lookup f = some ⟨oc, od, .func (PySem.W.fnOf x x (defArgs st) (defBody st) (defScope st) .none kV doc pm an cdv ct), osl⟩) (c : PySem.W.codeIn K cdv x = true) (k : PySem.W.keepIn K (.ref f) = true)
    (hb : ∀ (kV doc pm : Value) (an : Option Addr) (cdv ct : Value) (us : List Value), us.length = ps.length → bindArgs (PySem.W.fnOf x x (defArgs st) (defBody st) (defScope st) .none kV doc pm an cdv ct) ⟨us, []⟩ = pure (ps.zip us)) : Dn K mg x st ps :=
  ⟨f, _, fun_mk l c k, PySem.W.mg_of X G a, (fun_mk l c k).binds hb⟩
end CB
namespace L19
open PySem PySem.Spec PyProof.Rows L2 CB
def top (i : Nat) : Stmt := PySem.Challenge.pw_classledger_k19_whole_numbers_of_hurwitz.main.body.getD i (.Pass ⟨0, 0, 0, 0⟩)
structure Bl (mg : Str → Option Value) : Prop where
  abs : mg "abs" = none
  int : mg "int" = none
  bool : mg "bool" = none
  str : mg "str" = none
  tuple : mg "tuple" = none
  max : mg "max" = none
  sum : mg "sum" = none
  range : mg "range" = none
  sorted : mg "sorted" = none
  isinstance : mg "isinstance" = none
  isqrt : mg "isqrt" = some (.builtin "math.isqrt")
  c_HALVED_BITS : ∃ t, mg "HALVED_BITS" = some (.int 32 t)
  c_LARGEST : ∃ t, mg "LARGEST" = some (.int 1000000 t)
local macro_rules | `(tactic| walk_at "rd") => `(tactic| simp only [CB.rd_var, CB.rd_C, CB.rd_op, CB.rd_un, CB.rd_I, CB.rd_I0, CB.rd_U, CB.rd_Eq, CB.rd_Ne, CB.rd_test, CB.rd_B, CB.rd_and, CB.rd_or, CB.rd_not, CB.rd_andV, CB.rd_orV, CB.rd_notV, CB.rd_if, CB.rd_chain, CB.rd_chain3,
  CB.rd_next, CB.rd_seq, CB.rd_drop, CB.rd_ret, CB.rd_retN, CB.rd_break, CB.rd_cont, CB.rd_ifS, CB.rd_asg, CB.rd_name, CB.rd_gsub, CB.rd_gtup, CB.rd_gcons, CB.rd_gnil, CB.rd_par, CB.rd_aug, CB.rd_ipI, CB.rd_nil, CB.rd_cons, CB.rd_tup, CB.rd_lst, CB.rd_CB, CB.rd_call, CB.rd_callS, CB.rd_ixL, CB.rd_ixT, CB.rd_setL, CB.rd_isqrt, CB.rd_sum, CB.rd_append, CB.rd_forL, CB.rd_forT, CB.rd_forR1, CB.rd_forR2, CB.rd_forR3, CB.rd_lcL, CB.rd_lcT, CB.rd_lcR1, CB.rd_lcR2, CB.rd_yes, CB.rd_sl, CB.rd_noPart, CB.rd_part, CB.rd_slL, CB.rd_wipe0, CB.rd_rep, CB.rd_wipe1, CB.rd_sorted3,
  L2.start, List.map_cons, List.map_nil, List.length_cons, List.length_nil, Nat.reduceAdd, Nat.reduceSub, List.replicate_succ, List.replicate_zero,
  V.int.injEq, V.ref.injEq, V.bl.injEq, V.str.injEq, Option.some.injEq, List.cons.injEq, exists_and_left, exists_eq_left', exists_eq_left, reduceCtorEq, false_and, and_false, or_false, false_or, exists_false, exists_const, and_assoc, true_and, and_true,
  CB.scal_int, CB.scal_str, CB.dec_ii, CB.ite_dec, CB.ite_ndec, List.getElem?_cons_zero, List.getElem?_cons_succ, List.set_cons_zero, List.set_cons_succ, List.append_nil, List.cons_append, List.nil_append, if_true, if_false, Bool.false_eq_true, Bool.not_true, Bool.not_false, CB.K_nox, CB.K_cxOf, eq_self])


section
variable {P : Program} {w : World} {K : PySem.W.Frag} {mg : Str → Option Value} {base : Heap}
/-! ### the draws -/
abbrev s__law_take : Stmt := top 20
theorem sc__law_take : FnScope ["state", "m", "value"] ["state", "m"] (defScope s__law_take) := ⟨rfl, rfl, rfl, by decide +kernel, rfl, by decide +kernel, by decide +kernel⟩

def spTake : Sp := fun vs H Q _ => ∃ (a : Addr) (x y m : Int), vs = [.ref a, .int m] ∧ H a = some (.lst [.int x, .int y]) ∧ 0 < m ∧ m.natAbs.log2 < 9000 ∧
  ∀ v x' y' : Int, 0 ≤ v → v < m → Q (.int v) (upd H a (.lst [.int x', .int y']))
theorem cal_take (D : Dn K mg "_law_take" s__law_take ["state", "m"]) (B : Bl mg) : Cal P w K mg base "_law_take" 1 ["state", "m"] spTake := by
  refine D.cal sc__law_take (fun vs H Q E h => ?_) (fun f cdv A outer s H vs Q E hr h => ?_)
  · obtain ⟨a, x, y, m, rfl, _⟩ := h
    rfl
  · obtain ⟨a, x, y, m, rfl, ha, hm, hz, q⟩ := h
    refine ⟨_, (pss_cons (ps_if (pt_cmpR op_gt (pe_ix ix_list (pv 0) pe_int (fun _ _ => rfl)) pe_int (nomark _)) (pss_cons (ps_set (i := 2) sc__law_take.nd rfl (Or.inl rfl) (pe_op op_mod (pe_callTy call_int1 rfl B.int boot_int (pa_cons (pe_ix ix_list (pv 0) pe_int (fun _ _ => rfl)) pa_nil)) (pv 1)))
  (pss_cons (ps_asg (pe_op op_fdivW (pe_ix ix_list (pv 0) pe_int (fun _ _ => rfl)) (pv 1)) (pg_sub (pv 0) pe_int set_list))
  (pss_one (ps_ret (pv 2))))) pss_nil)
  (pss_cons (ps_asg (pe_op op_mod (pe_callTy call_int1 rfl B.int boot_int (pa_cons (pe_op op_add (pe_op op_mulI (pe_ix ix_list (pv 0) pe_int (fun _ _ => rfl)) pe_int) pe_int) pa_nil)) pe_int) (pg_sub (pv 0) pe_int set_list))
  (pss_one (ps_ret (pe_op op_mod (pe_callTy call_int1 rfl B.int boot_int (pa_cons (pe_op op_fdivW (pe_ix ix_list (pv 0) pe_int (fun _ _ => rfl)) pe_int) pa_nil)) (pv 1)))))), ?_⟩
    walk_at "rd"
    refine ⟨_, SqL.of ha, _, rfl, _, rfl, ite2 (fun h => ?_) (fun h => ?_)⟩
    · refine ⟨_, SqL.of ha, _, rfl, .inl ⟨_, rfl, hm, _, SqL.of ha, _, rfl, _, rfl, ⟨hm, hz⟩, _, ha, _, rfl, ?_⟩⟩
      exact q _ _ _ (Int.emod_nonneg _ (by omega)) (Int.emod_lt_of_pos _ hm)
    · refine ⟨_, SqL.of ha, _, rfl, _, rfl, mulR (by decide), by decide, _, ha, _, rfl, _, SqL.of upd_same, _, rfl, _, rfl, ⟨by decide, by decide +kernel⟩, hm, ?_⟩
      exact q _ _ _ (Int.emod_nonneg _ (by omega)) (Int.emod_lt_of_pos _ hm)
abbrev s__law_state : Stmt := top 19
theorem sc__law_state : FnScope ["script", "seed", "total", "cell"] ["script"] (defScope s__law_state) := ⟨rfl, rfl, rfl, by decide +kernel, rfl, by decide +kernel, by decide +kernel⟩

def spState (K : PySem.W.Frag) : Sp := fun vs H Q _ => ∃ (a : Addr) (ns : List Int), vs = [.ref a] ∧ SqL K H a (ns.map V.int) ∧ ns.length ≤ 63 ∧
  ∀ (p : Addr) (x y : Int) (H' : Hp), Same H H' → H p = none → H' p = some (.lst [.int x, .int y]) → Q (.ref p) H'
theorem cutV63 {ns : List Int} (h : ns.length ≤ 63) : cutV (ns.map V.int) none (some 63) = ns.map V.int := by
  unfold cutV
  rw [HT.sIx_none, show HT.sIx (ns.map V.int).length (ns.map V.int).length (some 63) = min 63 (ns.map V.int).length from HT.sIx_nat _ _ 63, List.length_map, List.drop_zero]
  rw [show min 63 ns.length - 0 = (ns.map V.int).length by rw [List.length_map]; omega, List.take_length]
theorem cal_state (D : Dn K mg "_law_state" s__law_state ["script"]) (B : Bl mg) : Cal P w K mg base "_law_state" 1 ["script"] (spState K) := by
  refine D.cal sc__law_state (fun vs H Q E h => ?_) (fun f cdv A outer s H vs Q E hr h => ?_)
  · obtain ⟨a, ns, rfl, _⟩ := h
    rfl
  · obtain ⟨a, ns, rfl, hS, hl, q⟩ := h
    refine ⟨_, (pss_cons (ps_set (i := 1) sc__law_state.nd rfl (Or.inl rfl) pe_int)
  (pss_cons (ps_set (i := 2) sc__law_state.nd rfl (Or.inl rfl) pe_int)
  (pss_cons (ps_for PassesOwn.never rfl (pi_list (pe_slice sl_list (pv 0) po_none (po_some pe_int))) (pg_name (i := 3) sc__law_state.nd rfl (Or.inl rfl)) (pss_cons (ps_set (i := 1) sc__law_state.nd rfl (Or.inl rfl) (pe_op op_add (pe_op op_mulI (pv 1) pe_int) (pe_callB call_abs rfl B.abs (by decide +kernel) (pa_cons (pv 3) pa_nil))))
  (pss_one (ps_set (i := 2) sc__law_state.nd rfl (Or.inl rfl) (pe_op op_mod (pe_callTy call_int1 rfl B.int boot_int (pa_cons (pe_op op_add (pe_op op_mulI (pv 2) pe_int) (pv 3)) pa_nil)) pe_int)))))
  (pss_one (ps_ret (pe_lst (pa_cons (pv 1) (pa_cons (pv 2) pa_nil)))))))), ?_⟩
    walk_at "rd"
    refine ⟨_, hS, fun c nc => ?_⟩
    rw [cutV63 hl]
    have hc : SqL K (upd H c (.lst (ns.map V.int))) c (ns.map V.int) := SqL.of upd_same
    refine ⟨⟨_, hc⟩, ForL.mk (xs := ns.map V.int) (fun _ σ H' => ∃ x y z, σ = [some (.ref a), some (.int x), some (.int y), z] ∧ H' = upd H c (.lst (ns.map V.int))) ⟨_, _, _, rfl, rfl⟩ ?_ ?_ ?_⟩
    · rintro i σ H' _ ⟨x, y, z, rfl, rfl⟩
      exact hc
    · rintro i v σ H' hv ⟨x, y, z, rfl, rfl⟩
      rw [List.getElem?_map] at hv
      obtain ⟨n, _, rfl⟩ := Option.map_eq_some_iff.mp hv
      walk_at "rd"
      exact ⟨mulR (by decide), mulR (by decide), by decide, _, rfl⟩
    · rintro σ H' ⟨x, y, z, rfl, rfl⟩
      walk_at "rd"
      refine ⟨by decide, fun p np => q p x y _ ((same_upd nc).trans (same_upd np)) ((same_upd nc).free np) upd_same⟩
/-! ### kinds of values -/
def kinds : List String := ["int", "bool", "NoneType", "str", "tuple", "list"]
theorem kit_k {T c : String} (hT : T ∈ kinds) (hc : c ∈ ["int", "bool", "str", "tuple"]) : kitB T c = some (T == c || (T == "bool" && c == "int")) := by
  unfold kinds at hT
  simp only [List.mem_cons, List.not_mem_nil, or_false] at hT hc
  rcases hT with rfl | rfl | rfl | rfl | rfl | rfl <;> rcases hc with rfl | rfl | rfl | rfl <;> decide +kernel
abbrev s_is_integer : Stmt := top 7
theorem sc_is_integer : FnScope ["value"] ["value"] (defScope s_is_integer) := ⟨rfl, rfl, rfl, by decide +kernel, rfl, by decide +kernel, by decide +kernel⟩

def spInt (K : PySem.W.Frag) : Sp := fun vs H Q _ => ∃ (v : V) (T : String), vs = [v] ∧ TyX K H v (.type T) ∧ T ∈ kinds ∧ Q (.bl (T == "int")) H
theorem cal_is_integer (D : Dn K mg "is_integer" s_is_integer ["value"]) (B : Bl mg) : Cal P w K mg base "is_integer" 1 ["value"] (spInt K) := by
  refine D.cal sc_is_integer (fun vs H Q E h => ?_) (fun f cdv A outer s H vs Q E hr h => ?_)
  · obtain ⟨v, T, rfl, _⟩ := h
    rfl
  · obtain ⟨v, T, rfl, ty, hT, q⟩ := h
    refine ⟨_, (pss_one (ps_ret (pe_and (pe_callB call_isi rfl B.isinstance (by decide +kernel) (pa_cons (pv 0) (pa_cons (pe_bltn (v := .ty "int") rfl B.int boot_int rfl) pa_nil))) (pe_one (pe_not (pe_callB call_isi rfl B.isinstance (by decide +kernel) (pa_cons (pv 0) (pa_cons (pe_bltn (v := .ty "bool") rfl B.bool boot_bool rfl) pa_nil)))))))), ?_⟩
    walk_at "rd"
    refine isi_mk ty (kit_k hT (by simp)) ⟨_, rfl, ite2 (fun h => ?_) (fun h => ?_)⟩
    · refine isi_mk ty (kit_k hT (by simp)) ⟨_, rfl, ?_⟩
      rw [show (!(T == "bool" || (T == "bool" && "bool" == "int"))) = (T == "int") from ?_]
      · exact q
      · unfold kinds at hT
        simp only [List.mem_cons, List.not_mem_nil, or_false] at hT
        rcases hT with rfl | rfl | rfl | rfl | rfl | rfl <;> revert h <;> decide +kernel
    · rw [show false = (T == "int") from ?_]
      · exact q
      · unfold kinds at hT
        simp only [List.mem_cons, List.not_mem_nil, or_false] at hT
        rcases hT with rfl | rfl | rfl | rfl | rfl | rfl <;> revert h <;> decide +kernel
abbrev s__law_whole : Stmt := top 21
theorem sc__law_whole : FnScope ["value"] ["value"] (defScope s__law_whole) := ⟨rfl, rfl, rfl, by decide +kernel, rfl, by decide +kernel, by decide +kernel⟩

theorem cal_whole (D : Dn K mg "_law_whole" s__law_whole ["value"]) (B : Bl mg) : Cal P w K mg base "_law_whole" 1 ["value"] (spInt K) := by
  refine D.cal sc__law_whole (fun vs H Q E h => ?_) (fun f cdv A outer s H vs Q E hr h => ?_)
  · obtain ⟨v, T, rfl, _⟩ := h
    rfl
  · obtain ⟨v, T, rfl, ty, hT, q⟩ := h
    refine ⟨_, (pss_one (ps_ret (pe_and (pe_callB call_isi rfl B.isinstance (by decide +kernel) (pa_cons (pv 0) (pa_cons (pe_bltn (v := .ty "int") rfl B.int boot_int rfl) pa_nil))) (pe_one (pe_not (pe_callB call_isi rfl B.isinstance (by decide +kernel) (pa_cons (pv 0) (pa_cons (pe_bltn (v := .ty "bool") rfl B.bool boot_bool rfl) pa_nil)))))))), ?_⟩
    walk_at "rd"
    refine isi_mk ty (kit_k hT (by simp)) ⟨_, rfl, ite2 (fun h => ?_) (fun h => ?_)⟩
    · refine isi_mk ty (kit_k hT (by simp)) ⟨_, rfl, ?_⟩
      rw [show (!(T == "bool" || (T == "bool" && "bool" == "int"))) = (T == "int") from ?_]
      · exact q
      · unfold kinds at hT
        simp only [List.mem_cons, List.not_mem_nil, or_false] at hT
        rcases hT with rfl | rfl | rfl | rfl | rfl | rfl <;> revert h <;> decide +kernel
    · rw [show false = (T == "int") from ?_]
      · exact q
      · unfold kinds at hT
        simp only [List.mem_cons, List.not_mem_nil, or_false] at hT
        rcases hT with rfl | rfl | rfl | rfl | rfl | rfl <;> revert h <;> decide +kernel
end

/-! ### whole roots -/
def isq (n : Int) : Int := ((Float64.isqrt n.toNat : Nat) : Int)
theorem isq_nn (n : Int) : 0 ≤ isq n := Int.natCast_nonneg _
theorem isq_le {n : Int} (h : 0 ≤ n) : isq n * isq n ≤ n := by
  have a := (isqrt_spec n.toNat).1
  have b : ((Float64.isqrt n.toNat * Float64.isqrt n.toNat : Nat) : Int) ≤ ((n.toNat : Nat) : Int) := Int.ofNat_le.mpr a
  rw [Int.natCast_mul] at b
  unfold isq
  omega
theorem isq_lt {n : Int} (h : 0 ≤ n) : n < (isq n + 1) * (isq n + 1) := by
  have a := (isqrt_spec n.toNat).2
  have b : ((n.toNat : Nat) : Int) < (((Float64.isqrt n.toNat + 1) * (Float64.isqrt n.toNat + 1) : Nat) : Int) := Int.ofNat_lt.mpr a
  rw [Int.natCast_mul, Int.natCast_add] at b
  unfold isq
  have e : ((1 : Nat) : Int) = 1 := rfl
  rw [e] at b
  omega
theorem sq_lt {r s : Int} (hr : 0 ≤ r) (h : r * r < (s + 1) * (s + 1)) (hs : 0 ≤ s) : r ≤ s := by
  rcases Int.lt_or_le s r with q | q
  · have a : (s + 1) * (s + 1) ≤ r * r := Int.mul_le_mul (by omega) (by omega) (by omega) hr
    omega
  · exact q
theorem isq_uniq {n r : Int} (hr : 0 ≤ r) (h1 : r * r ≤ n) (h2 : n < (r + 1) * (r + 1)) : isq n = r := by
  have hn : 0 ≤ n := Int.le_trans (Int.mul_nonneg hr hr) h1
  have a := sq_lt hr (Int.lt_of_le_of_lt h1 (isq_lt hn)) (isq_nn n)
  have b := sq_lt (isq_nn n) (Int.lt_of_le_of_lt (isq_le hn) h2) hr
  omega
theorem isq_iff {n a : Int} (hn : 0 ≤ n) (ha : 0 ≤ a) : a * a ≤ n ↔ a ≤ isq n := by
  refine ⟨fun h => sq_lt ha (Int.lt_of_le_of_lt h (isq_lt hn)) (isq_nn n), fun h => ?_⟩
  exact Int.le_trans (Int.mul_le_mul h h ha (isq_nn n)) (isq_le hn)
theorem isq_self {n : Int} (h0 : 0 ≤ n) (h : n < 2) : isq n = n := by
  have e : n = 0 ∨ n = 1 := by omega
  rcases e with rfl | rfl
  · exact isq_uniq (by omega) (by omega) (by omega)
  · exact isq_uniq (by omega) (by omega) (by omega)
theorem isq_bd {n c : Int} (hn : 0 ≤ n) (hc : 0 ≤ c) (h : n < (c + 1) * (c + 1)) : isq n ≤ c := sq_lt (isq_nn n) (Int.lt_of_le_of_lt (isq_le hn) h) hc
/-- a bound that omega doesn't read -/
def BIG : Int := 2 ^ 3000
theorem BIG_pos : 1000000000000 < BIG := by decide +kernel
theorem BIG_big : BIG < 2 ^ 13000 := by decide +kernel
theorem bigAbs {i : Int} (h1 : -(16 * BIG) < i) (h2 : i < 16 * BIG) : i.natAbs < 2 ^ 3004 := by
  have e : (16 * BIG : Int) = ((2 ^ 3004 : Nat) : Int) := by decide +kernel
  rw [e] at h1 h2
  omega
theorem mulBig {i j : Int} (h1 : -(16 * BIG) < i) (h2 : i < 16 * BIG) (h3 : -(16 * BIG) < j) (h4 : j < 16 * BIG) : IntMulOk i j :=
  (wide_mul (bigAbs h1 h2) (bigAbs h3 h4) (by decide) (by decide) (by decide)).ok
theorem low_le {a n : Int} (h0 : 0 ≤ a) (h : a * a ≤ n) : a ≤ n := by
  rcases Int.lt_or_le 0 a with q | q
  · have := Int.mul_le_mul (show 1 ≤ a by omega) (Int.le_refl a) h0 h0
    omega
  · have e : a = 0 := by omega
    rw [e] at h
    omega
section
variable {P : Program} {w : World} {K : PySem.W.Frag} {mg : Str → Option Value} {base : Heap}
abbrev s_root : Stmt := top 9
theorem sc_root : FnScope ["n", "k", "bits", "half"] ["n", "k"] (defScope s_root) := ⟨rfl, rfl, rfl, by decide +kernel, rfl, by decide +kernel, by decide +kernel⟩

def spRoot : Sp := fun vs H Q _ => ∃ n : Int, vs = [.int n, .int 2] ∧ 0 ≤ n ∧ n < BIG ∧ Q (.int (isq n)) H
theorem cal_root (D : Dn K mg "root" s_root ["n", "k"]) (B : Bl mg) : Cal P w K mg base "root" 1 ["n", "k"] spRoot := by
  refine D.cal sc_root (fun vs H Q E h => ?_) (fun f cdv A outer s H vs Q E hr h => ?_)
  · obtain ⟨n, rfl, _⟩ := h
    rfl
  · obtain ⟨n, rfl, h0, h1, q⟩ := h
    refine ⟨_, (pss_cons (ps_if (PW.pt (pw_or (pt_cmpR op_eq (pv 1) pe_int (nomark _)) (pw_or1 (pt_cmpR op_lt (pv 0) pe_int (nomark _))))) (pss_one (ps_ret (pv 0))) pss_nil)
  (pss_cons (ps_if (pt_cmpR op_eq (pv 1) pe_int (nomark _)) (pss_one (ps_ret (pe_callBfun cr_isqrt rfl B.isqrt (pa_cons (pv 0) pa_nil)))) pss_nil)
  pss_never)), ?_⟩
    walk_at "rd"
    rw [if_neg (by decide)]
    refine ite2 (fun h => ?_) (fun h => ⟨h0, Int.lt_trans h1 BIG_big, q⟩)
    rw [isq_self h0 h] at q
    exact q
abbrev s__law_root : Stmt := top 23
theorem sc__law_root : FnScope ["n", "low", "step"] ["n"] (defScope s__law_root) := ⟨rfl, rfl, rfl, by decide +kernel, rfl, by decide +kernel, by decide +kernel⟩

def spLawRoot : Sp := fun vs H Q _ => ∃ n : Int, vs = [.int n] ∧ 0 ≤ n ∧ n < BIG ∧ Q (.int (isq n)) H
theorem half_pow {j : Nat} : (2 ^ (j + 1) : Int) / 2 = 2 ^ j := by
  rw [Int.pow_succ, Int.mul_ediv_cancel _ (by decide)]
theorem cal_law_root (D : Dn K mg "_law_root" s__law_root ["n"]) (B : Bl mg) : Cal P w K mg base "_law_root" 1 ["n"] spLawRoot := by
  refine D.cal sc__law_root (fun vs H Q E h => ?_) (fun f cdv A outer s H vs Q E hr h => ?_)
  · obtain ⟨n, rfl, _⟩ := h
    rfl
  · obtain ⟨n, rfl, h0, h1, q⟩ := h
    have hB := BIG_pos
    refine ⟨_, (pss_cons (ps_if (pt_cmpR op_lt (pv 0) pe_int (nomark _)) (pss_one (ps_ret (pv 0))) pss_nil)
  (pss_cons (ps_set (i := 1) sc__law_root.nd rfl (Or.inl rfl) pe_int)
  (pss_cons (ps_while PassesOwn.never (pt_cmpR op_le (pe_op op_mulI (pv 1) (pv 1)) (pv 0) (nomark _)) (pss_one (ps_set (i := 1) sc__law_root.nd rfl (Or.inl rfl) (pe_op op_mulI pe_int (pv 1)))))
  (pss_cons (ps_set (i := 2) sc__law_root.nd rfl (Or.inl rfl) (pv 1))
  (pss_cons (ps_set (i := 1) sc__law_root.nd rfl (Or.inl rfl) pe_int)
  (pss_cons (ps_while PassesOwn.never (pt_cmpR op_gt (pv 2) pe_int (nomark _)) (pss_cons (ps_if (pt_cmpR op_le (pe_op op_mulI (pe_op op_add (pv 1) (pv 2)) (pe_op op_add (pv 1) (pv 2))) (pv 0) (nomark _)) (pss_one (ps_set (i := 1) sc__law_root.nd rfl (Or.inl rfl) (pe_op op_add (pv 1) (pv 2)))) pss_nil)
  (pss_one (ps_set (i := 2) sc__law_root.nd rfl (Or.inl rfl) (pe_op op_fdivW (pv 2) pe_int)))))
  (pss_one (ps_ret (pv 1))))))))), ?_⟩
    walk_at "rd"
    refine ite2 (fun h => ?_) (fun hn2 => ?_)
    · rw [isq_self h0 h] at q
      exact q
    refine while_w (fun σ H' => ∃ (low : Int) (j : Nat), σ = [some (.int n), some (.int low), none] ∧ H' = H ∧ low = 2 ^ j ∧ low ≤ 2 * n)
      (fun σ _ => match σ with | [_, some (.int low), _] => (2 * n - low).toNat | _ => 0) ⟨1, 0, rfl, rfl, rfl, by omega⟩ ?_
    rintro σ H' ⟨low, j, rfl, rfl, hl, hlb⟩ N hN
    have hpos : 0 < low := by rw [hl]; exact Int.pow_pos (by decide)
    have mo : IntMulOk low low := mulBig (by omega) (by omega) (by omega) (by omega)
    refine ⟨decide (low * low ≤ n), fun Q' q' => ?_, fun hb => ?_, fun hb => ?_⟩
    · walk_at "rd"
      exact ⟨mo, q'⟩
    · have hle := of_decide_eq_true hb
      have hln := low_le (by omega) hle
      walk_at "rd"
      refine ⟨mulL (by decide), hN _ _ ⟨2 * low, j + 1, rfl, rfl, by rw [hl, Int.pow_succ]; omega, by omega⟩ ?_⟩
      show (2 * n - 2 * low).toNat < (2 * n - low).toNat
      omega
    · have hgt : n < low * low := by
        have := of_decide_eq_false hb
        omega
      walk_at "rd"
      refine while_w (fun σ H₁ => ∃ (lo st : Int), σ = [some (.int n), some (.int lo), some (.int st)] ∧ H₁ = H' ∧ 0 ≤ lo ∧ lo * lo ≤ n ∧ st ≤ 2 * n ∧
          ((∃ i : Nat, st = 2 ^ i ∧ n < (lo + 2 * st) * (lo + 2 * st)) ∨ (st = 0 ∧ n < (lo + 1) * (lo + 1))))
        (fun σ _ => match σ with | [_, _, some (.int st)] => st.toNat | _ => 0) ⟨0, low, rfl, rfl, by omega, by omega, hlb, .inl ⟨j, hl, ?_⟩⟩ ?_
      · have : low * low ≤ (0 + 2 * low) * (0 + 2 * low) := Int.mul_le_mul (by omega) (by omega) (by omega) (by omega)
        omega
      rintro σ H₁ ⟨lo, st, rfl, rfl, hlo, hll, hst, hi⟩ N hN
      have hlon := low_le hlo hll
      refine ⟨decide (0 < st), fun Q' q' => ?_, fun hb => ?_, fun hb => ?_⟩
      · walk_at "rd"
        exact q'
      · have hp := of_decide_eq_true hb
        rcases hi with ⟨i, rfl, hu⟩ | ⟨e, _⟩
        · have half : ∀ lo' : Int, 0 ≤ lo' → lo' * lo' ≤ n → n < (lo' + 2 ^ i) * (lo' + 2 ^ i) → N [some (V.int n), some (V.int lo'), some (V.int (2 ^ i / 2))] H₁ := by
            intro lo' g1 g2 g3
            refine hN _ _ ⟨lo', 2 ^ i / 2, rfl, rfl, g1, g2, by omega, ?_⟩ (by show (2 ^ i / 2 : Int).toNat < (2 ^ i : Int).toNat; omega)
            cases i with
            | zero => exact .inr ⟨by decide, g3⟩
            | succ i =>
              refine .inl ⟨i, half_pow, ?_⟩
              rw [half_pow]
              rw [Int.pow_succ] at g3
              rw [show 2 * (2 : Int) ^ i = 2 ^ i * 2 by omega]
              exact g3
          have mo2 : IntMulOk (lo + 2 ^ i) (lo + 2 ^ i) := mulBig (by omega) (by omega) (by omega) (by omega)
          walk_at "rd"
          refine ⟨mo2, ite2 (fun c => ⟨⟨by decide, by decide +kernel⟩, ?_⟩) (fun c => ⟨⟨by decide, by decide +kernel⟩, ?_⟩)⟩
          · refine half (lo + 2 ^ i) (by omega) c ?_
            rw [show lo + 2 ^ i + 2 ^ i = lo + 2 * 2 ^ i by omega]
            exact hu
          · exact half lo hlo hll (by omega)
        · omega
      · have hp := of_decide_eq_false hb
        walk_at "rd"
        rcases hi with ⟨i, rfl, hu⟩ | ⟨e, hu⟩
        · exact absurd (Int.pow_pos (by decide) : (0 : Int) < 2 ^ i) hp
        · rw [isq_uniq hlo hll hu] at q
          exact q
end

/-! ### reduced forms, listed -/
def mx1 (b : Int) : Int := if 1 > b then 1 else b
def cell (b m a : Int) : List T3 := if m % a = 0 then (a, b, m / a) :: (if 0 < b ∧ b < a ∧ a < m / a then [(a, -b, m / a)] else []) else []
def rowF (b m lo : Int) (k : Nat) : List T3 := (List.range k).flatMap fun (i : Nat) => cell b m (lo + (i : Int))
theorem rowF_succ {b m lo : Int} {k : Nat} : rowF b m lo (k + 1) = rowF b m lo k ++ cell b m (lo + k) := by
  unfold rowF
  rw [List.range_succ, List.flatMap_append, List.flatMap_singleton]
def mB (n b : Int) : Int := (b * b + n) / 4
def kB (n b : Int) : Nat := (isq (mB n b) + 1 - mx1 b).toNat
def rowN (n b : Int) : List T3 := rowF b (mB n b) (mx1 b) (kB n b)
def bAt (n : Int) (i : Nat) : Int := n % 2 + (i : Nat) * 2
def formsF (n : Int) (k : Nat) : List T3 := (List.range k).flatMap fun (i : Nat) => rowN n (bAt n i)
theorem formsF_succ {n : Int} {k : Nat} : formsF n (k + 1) = formsF n k ++ rowN n (bAt n k) := by
  unfold formsF
  rw [List.range_succ, List.flatMap_append, List.flatMap_singleton]
def cnt (n : Int) : Nat := (Builtin.Range.rangeSize (n % 2) (isq (n / 3) + 1) 2).toNat
def forms (n : Int) : List T3 := formsF n (cnt n)
theorem cell_len (b m a : Int) : (cell b m a).length ≤ 2 := by
  unfold cell
  split
  · split <;> simp
  · simp
theorem rowF_len (b m lo : Int) : ∀ k : Nat, (rowF b m lo k).length ≤ 2 * k
  | 0 => by simp [rowF]
  | k + 1 => by
    rw [rowF_succ, List.length_append]
    have a := rowF_len b m lo k
    have c := cell_len b m (lo + k)
    omega
theorem rsize2 {lo hi : Int} : (Builtin.Range.rangeSize lo hi 2).toNat = ((hi - lo + 1) / 2).toNat := by
  unfold Builtin.Range.rangeSize
  rw [if_pos (by decide)]
  split <;> omega
theorem RgC2 {lo hi : Int} (h1 : 0 ≤ lo) (h2 : lo < 2) (h3 : 0 ≤ hi) (h4 : hi < 2 ^ 40) : RgC lo hi 2 (Builtin.Range.rangeSize lo hi 2).toNat := by
  refine ⟨by decide, by decide, ?_, ?_⟩
  · unfold Builtin.Range.small Builtin.Range.rangeSize
    simp only [Builtin.Range.rangeFitsLong, Bool.and_eq_true, Bool.or_eq_true, decide_eq_true_eq, beq_iff_eq, show (2 : Int) > 0 by decide, if_true]
    split <;> omega
  · unfold Builtin.Range.rangeSize
    rw [if_pos (by decide)]
    split <;> omega
structure Sm (n : Int) : Prop where
  pos : 0 < n
  le : n ≤ 1000000
theorem Sm.r3 {n : Int} (h : Sm n) : 0 ≤ n / 3 ∧ isq (n / 3) ≤ 577 := by
  have := h.pos
  have := h.le
  exact ⟨by omega, isq_bd (by omega) (by decide) (by omega)⟩
theorem Sm.b {n : Int} (h : Sm n) {i : Nat} (hi : i < cnt n) : 0 ≤ bAt n i ∧ bAt n i ≤ isq (n / 3) ∧ bAt n i ≤ 577 ∧ i ≤ 290 := by
  have a := h.r3
  have c := isq_nn (n / 3)
  unfold cnt at hi
  rw [rsize2] at hi
  unfold bAt
  omega
theorem Sm.cnt {n : Int} (h : Sm n) : cnt n ≤ 290 := by
  have a := h.r3
  have c := isq_nn (n / 3)
  unfold L19.cnt
  rw [rsize2]
  omega
theorem Sm.m {n : Int} (h : Sm n) {b : Int} (h0 : 0 ≤ b) (h1 : b ≤ 577) : 0 ≤ mB n b ∧ mB n b ≤ 333300 ∧ isq (mB n b) ≤ 577 := by
  have a := h.pos
  have c := h.le
  have d : b * b ≤ 577 * 577 := Int.mul_le_mul h1 h1 h0 (by decide)
  have e : 0 ≤ b * b := Int.mul_nonneg h0 h0
  have m1 : 0 ≤ mB n b := by unfold mB; omega
  have m2 : mB n b ≤ 333300 := by unfold mB; omega
  exact ⟨m1, m2, isq_bd m1 (by decide) (by omega)⟩
theorem mx1_ge (b : Int) : 1 ≤ mx1 b ∧ b ≤ mx1 b ∧ (mx1 b = 1 ∨ mx1 b = b) := by
  unfold mx1
  split <;> omega
theorem Sm.k {n : Int} (h : Sm n) {b : Int} (h0 : 0 ≤ b) (h1 : b ≤ 577) : kB n b ≤ 577 := by
  have a := (h.m h0 h1).2.2
  have c := mx1_ge b
  unfold kB
  omega
theorem Sm.row {n : Int} (h : Sm n) {b : Int} (h0 : 0 ≤ b) (h1 : b ≤ 577) : (rowN n b).length ≤ 1200 := by
  have a := rowF_len b (mB n b) (mx1 b) (kB n b)
  have c := h.k h0 h1
  unfold rowN
  omega
theorem Sm.len {n : Int} (h : Sm n) : ∀ k : Nat, k ≤ L19.cnt n → (formsF n k).length ≤ 1200 * k
  | 0, _ => by simp [formsF]
  | k + 1, hk => by
    rw [formsF_succ, List.length_append]
    have a := h.len k (by omega)
    have b := h.b (i := k) (by omega)
    have c := h.row b.1 b.2.2.1
    omega
theorem big1 {i : Int} (h0 : 0 ≤ i) (h : i ≤ 1000000) : i < BIG := by
  have := BIG_pos
  omega
theorem small_size {n : Nat} (h : n ≤ 10000000) : n < sizeLine := by rw [PySem.sizeLine_eq]; omega
/-! ### heaps that grow -/
/-! ### the divisors in a range -/
def dv (m lo : Int) (k : Nat) : List Int := ((List.range k).map fun (i : Nat) => lo + (i : Int)).filter fun a => decide (m % a = 0)
theorem dv_yes {m lo : Int} {k : Nat} (h : m % (lo + k) = 0) : dv m lo (k + 1) = dv m lo k ++ [lo + k] := by
  unfold dv
  rw [List.range_succ, List.map_append, List.filter_append, List.map_singleton, List.filter_cons_of_pos (by simpa using h), List.filter_nil]
theorem dv_no {m lo : Int} {k : Nat} (h : ¬ m % (lo + k) = 0) : dv m lo (k + 1) = dv m lo k := by
  unfold dv
  rw [List.range_succ, List.map_append, List.filter_append, List.map_singleton, List.filter_cons_of_neg (by simpa using h), List.filter_nil, List.append_nil]
theorem dv_row {b m lo : Int} : ∀ k : Nat, rowF b m lo k = (dv m lo k).flatMap (cell b m)
  | 0 => rfl
  | k + 1 => by
    rw [rowF_succ, dv_row k]
    by_cases h : m % (lo + k) = 0
    · rw [dv_yes h, List.flatMap_append, List.flatMap_singleton]
    · rw [dv_no h]
      unfold cell
      rw [if_neg h, List.append_nil]
theorem dv_len {m lo : Int} {k : Nat} : (dv m lo k).length ≤ k := by
  unfold dv
  refine Nat.le_trans (List.length_filter_le _ _) ?_
  rw [List.length_map, List.length_range]
  exact Nat.le_refl _
theorem dv_mem {m lo a : Int} {k : Nat} (h : a ∈ dv m lo k) : m % a = 0 ∧ lo ≤ a ∧ a < lo + k := by
  unfold dv at h
  obtain ⟨h1, h2⟩ := List.mem_filter.mp h
  obtain ⟨i, hi, rfl⟩ := List.mem_map.mp h1
  have := List.mem_range.mp hi
  exact ⟨of_decide_eq_true h2, by omega, by omega⟩
theorem divSmall {i a : Int} (h : 0 < a) (h2 : a < 2 ^ 64) : CDivW i a := wide_div (b := 64) h (by omega) (by decide) (by decide)
section
variable {P : Program} {w : World} {K : PySem.W.Frag} {mg : Str → Option Value} {base : Heap}
abbrev s__counted_forms : Stmt := top 14
theorem sc__counted_forms : FnScope ["D", "found", "b", "product", "divisors", "a", "c", "d"] ["D"] (defScope s__counted_forms) := ⟨rfl, rfl, rfl, by decide +kernel, rfl, by decide +kernel, by decide +kernel⟩

/-- a new list of n's reduced forms, sorted -/
def GotForms (H : Hp) (n : Int) (Q : VK) : Prop := ∀ (ys : List V) (us : List T3) (p : Addr) (H' : Hp), Same H H' → H p = none → H' p = some (.lst ys) → Trs H' ys us → us.Pairwise (fun p q => lexT q p = false) → us.Perm (forms n) → Q (.ref p) H'
def spCounted : Sp := fun vs H Q _ => ∃ n : Int, vs = [.int (-n)] ∧ Sm n ∧ GotForms H n Q
theorem cal_counted (D : Dn K mg "_counted_forms" s__counted_forms ["D"]) (B : Bl mg) (c_root : Cal P w K mg base "root" 1 ["n", "k"] spRoot) : Cal P w K mg base "_counted_forms" 2 ["D"] spCounted := by
  refine D.cal sc__counted_forms (fun vs H Q E h => ?_) (fun f cdv A outer s H vs Q E hr h => ?_)
  · obtain ⟨n, rfl, _⟩ := h
    rfl
  · obtain ⟨n, rfl, hS, q⟩ := h
    refine ⟨_, (pss_cons (ps_set (i := 1) sc__counted_forms.nd rfl (Or.inl rfl) (pe_lst pa_nil))
  (pss_cons (ps_for PassesOwn.never rfl (pi_range3 rfl B.range (pa_cons (pe_op op_mod (pv 0) pe_int) (pa_cons (pe_op op_add (pe_cal c_root (hr.mono (by decide)) rfl (pa_cons (pe_op op_fdivW (pe_un un_neg (pv 0)) pe_int) (pa_cons pe_int pa_nil))) pe_int) (pa_cons pe_int pa_nil)))) (pg_name (i := 2) sc__counted_forms.nd rfl (Or.inl rfl)) (pss_cons (ps_set (i := 3) sc__counted_forms.nd rfl (Or.inr rfl) (pe_op op_fdivW (pe_op op_sub (pe_op op_mulI (pv 2) (pv 2)) (pv 0)) pe_int))
  (pss_cons (ps_setLc (i := 4) (own := [("d", 7)]) rfl sc__counted_forms.nd rfl rfl (sw_true rfl rfl rfl (by decide +kernel)) (pi_range2 rfl B.range (pa_cons (pe_callB (call_max2 rfl) rfl B.max (by decide +kernel) (pa_cons (pv 2) (pa_cons pe_int pa_nil))) (pa_cons (pe_op op_add (pe_cal c_root (hr.mono (by decide)) rfl (pa_cons (pv 3) (pa_cons pe_int pa_nil))) pe_int) pa_nil))) (blkOk_by (N := ["D", "found", "b", "product", "divisors", "a", "c", "d"]) (sc := defScope s__counted_forms) (own := [("d", 7)]) (by decide +kernel)) (fun _ _ _ _ _ => (pg_name (i := 7) sc__counted_forms.nd rfl (Or.inl rfl))) (fun _ _ _ _ _ => (pts_one (pt_cmpR op_eq (pe_op op_mod (pv 3) (pv 7)) pe_int (nomark _)))) (fun _ _ _ _ _ => (pv 7)))
  (pss_one (ps_for PassesOwn.never rfl (pi_list (pv 4)) (pg_name (i := 5) sc__counted_forms.nd rfl (Or.inl rfl)) (pss_cons (ps_set (i := 6) sc__counted_forms.nd rfl (Or.inl rfl) (pe_op op_fdivW (pv 3) (pv 5)))
  (pss_cons (ps_expr (pe_bm PySem.F.plainAttrs_list PySem.F.slot_list_append PySem.F.type_list_append mt_append (pv 1) (pa_cons (pe_tup (pa_cons (pv 5) (pa_cons (pv 2) (pa_cons (pv 6) pa_nil)))) pa_nil)))
  (pss_one (ps_if (pt_chain3 op_lt op_lt op_lt pe_int (pv 2) (pv 5) (pv 6)) (pss_one (ps_expr (pe_bm PySem.F.plainAttrs_list PySem.F.slot_list_append PySem.F.type_list_append mt_append (pv 1) (pa_cons (pe_tup (pa_cons (pv 5) (pa_cons (pe_un un_neg (pv 2)) (pa_cons (pv 6) pa_nil)))) pa_nil)))) pss_nil)))))))))
  (pss_one (ps_ret (pe_callB cr_sorted3 rfl B.sorted (by decide +kernel) (pa_cons (pv 1) pa_nil)))))), ?_⟩
    walk_at "rd"
    refine ⟨Nat.zero_le _, fun fnd nf => ⟨by decide, ⟨by decide, by decide +kernel⟩, ?_⟩⟩
    rw [Int.neg_neg, show -n % 2 = n % 2 by omega]
    have r3 := hS.r3
    have hn0 := hS.pos
    have hn1 := hS.le
    refine ⟨n / 3, rfl, r3.1, big1 r3.1 (by omega), ?_⟩
    walk_at "rd"
    refine ⟨cnt n, RgC2 (by omega) (by omega) (by have := isq_nn (n / 3); omega) (by omega), ForC.w (fun i σ H1 => ∃ xs s2 s3 s4 s5 s6 s7, σ = [some (.int (-n)), some (.ref fnd), s2, s3, s4, s5, s6, s7] ∧ Same H H1 ∧ H1 fnd = some (.lst xs) ∧ Trs H1 xs (formsF n i))
      ⟨[], _, _, _, _, _, _, rfl, same_upd nf, upd_same, Trs.nil⟩ ?_ ?_⟩
    · rintro i σ H1 hi ⟨xs, s2, s3, s4, s5, s6, s7, rfl, sm, hf, ht⟩ N hN
      have hb := hS.b hi
      have hlen := hS.len i (by omega)
      have hcn := hS.cnt
      rw [formsF_succ] at hN
      rw [show n % 2 + (i : Int) * 2 = bAt n i from rfl]
      generalize bAt n i = b at *
      obtain ⟨b0, b1, b2, i1⟩ := hb
      have hm := hS.m b0 b2
      have hk := hS.k b0 b2
      have em : (b * b - -n) / 4 = mB n b := by unfold mB; rw [Int.sub_neg]
      walk_at "rd"
      rw [em]
      have hx := mx1_ge b
      have q0 := isq_nn (mB n b)
      refine ⟨mulL (by omega), divSmall (by decide) (by decide), mB n b, rfl, hm.1, big1 hm.1 (by omega), ?_⟩
      walk_at "rd"
      rw [show (if 1 > b then (1 : Int) else b) = mx1 b from rfl, show (isq (mB n b) + 1 - mx1 b).toNat = kB n b from rfl]
      refine ⟨by omega, by omega, by omega, by omega, LcR.w (fun j D ys H2 => ys = (dv (mB n b) (mx1 b) j).map V.int ∧ H2 = upd H1 D (.lst ys)) (fun D nD => ⟨rfl, rfl⟩) ?_ ?_⟩
      · rintro D j ys H2 hj ⟨rfl, rfl⟩ N2 hN2
        walk_at "rd"
        refine ⟨by omega, ite2 (fun hdv => ?_) (fun hdv => ?_)⟩
        · refine ⟨_, upd_same, ?_, ?_⟩
          · rw [List.length_map]
            exact small_size (Nat.le_trans dv_len (by omega))
          · refine hN2 _ _ ⟨rfl, ?_⟩
            rw [upd_upd, dv_yes hdv, List.map_append]
            rfl
        · exact hN2 _ _ ⟨rfl, by rw [dv_no hdv]⟩
      · rintro D ys H2 nD ⟨rfl, rfl⟩
        walk_at "rd"
        have fD : fnd ≠ D := ne_of_none hf nD
        have hDn : H D = none := sm.free nD
        refine ⟨⟨_, SqL.of upd_same⟩, ForL.w (xs := (dv (mB n b) (mx1 b) (kB n b)).map V.int) (fun j σ H3 => ∃ xs' s5 s6 s7, σ = [some (.int (-n)), some (.ref fnd), some (.int b), some (.int (mB n b)), some (.ref D), s5, s6, s7] ∧ Same H H3 ∧
            H3 D = some (.lst ((dv (mB n b) (mx1 b) (kB n b)).map V.int)) ∧ H3 fnd = some (.lst xs') ∧ Trs H3 xs' (formsF n i ++ ((dv (mB n b) (mx1 b) (kB n b)).take j).flatMap (cell b (mB n b))))
          ⟨xs, _, _, _, rfl, same_at sm hDn, upd_same, by rw [upd_ne fD]; exact hf, ?_⟩ ?_ ?_ ?_⟩
        · rw [List.take_zero, List.flatMap_nil, List.append_nil]
          exact ht.updN nD
        · rintro j σ H3 _ ⟨xs', s5, s6, s7, rfl, sm3, hD3, hf3, ht3⟩
          exact SqL.of hD3
        · rintro j v σ H3 hv ⟨xs', s5, s6, s7, rfl, sm3, hD3, hf3, ht3⟩ N3 hN3
          rw [List.getElem?_map] at hv
          obtain ⟨a, ha, rfl⟩ := Option.map_eq_some_iff.mp hv
          have hj : j < (dv (mB n b) (mx1 b) (kB n b)).length := (List.getElem?_eq_some_iff.mp ha).1
          have hmem := dv_mem (List.mem_of_getElem? ha)
          have hl3 : xs'.length ≤ 1200 * i + 2 * j := by
            rw [← ht3.len, List.length_append]
            have e1 : (((dv (mB n b) (mx1 b) (kB n b)).take j).flatMap (cell b (mB n b))).length ≤ 2 * j := by
              have : ∀ l : List Int, (l.flatMap (cell b (mB n b))).length ≤ 2 * l.length := fun l => by
                induction l with
                | nil => simp
                | cons y l ih =>
                  rw [List.flatMap_cons, List.length_append, List.length_cons]
                  have := cell_len b (mB n b) y
                  omega
              refine Nat.le_trans (this _) ?_
              rw [List.length_take]
              omega
            omega
          have hjk : j < kB n b := Nat.lt_of_lt_of_le hj dv_len
          have etk : (dv (mB n b) (mx1 b) (kB n b)).take (j + 1) = (dv (mB n b) (mx1 b) (kB n b)).take j ++ [a] := by
            rw [List.take_add_one, ha]
            rfl
          have ecell : cell b (mB n b) a = (a, b, mB n b / a) :: (if 0 < b ∧ b < a ∧ a < mB n b / a then [(a, -b, mB n b / a)] else []) := by
            unfold cell
            rw [if_pos hmem.1]
          rw [etk, List.flatMap_append, List.flatMap_singleton, ecell] at hN3
          walk_at "rd"
          refine ⟨divSmall (by omega) (by omega), tyL hf3, by decide, fun t1 n1 => ?_⟩
          have ft1 : fnd ≠ t1 := ne_of_none hf3 n1
          have Dt1 : D ≠ t1 := ne_of_none hD3 n1
          refine ⟨xs', by rw [upd_ne ft1]; exact hf3, small_size (by omega), ?_⟩
          have e1 : (upd (upd H3 t1 (.tup [.int a, .int b, .int (mB n b / a)])) fnd (.lst (xs' ++ [.ref t1]))) fnd = some (.lst (xs' ++ [.ref t1])) := upd_same
          have T1 : Trs (upd (upd H3 t1 (.tup [.int a, .int b, .int (mB n b / a)])) fnd (.lst (xs' ++ [.ref t1]))) (xs' ++ [.ref t1]) (formsF n i ++ ((dv (mB n b) (mx1 b) (kB n b)).take j).flatMap (cell b (mB n b)) ++ [(a, b, mB n b / a)]) :=
            ((ht3.updN n1).snoc upd_same).updL (by rw [upd_ne ft1]; exact hf3)
          have S1 : Same H (upd (upd H3 t1 (.tup [.int a, .int b, .int (mB n b / a)])) fnd (.lst (xs' ++ [.ref t1]))) := same_at (same_at sm3 (sm3.free n1)) nf
          have D1 : (upd (upd H3 t1 (.tup [.int a, .int b, .int (mB n b / a)])) fnd (.lst (xs' ++ [.ref t1]))) D = some (.lst ((dv (mB n b) (mx1 b) (kB n b)).map V.int)) := by
            rw [upd_ne fD.symm, upd_ne Dt1]
            exact hD3
          generalize upd (upd H3 t1 (.tup [.int a, .int b, .int (mB n b / a)])) fnd (.lst (xs' ++ [.ref t1])) = H4 at *
          have yes : 0 < b ∧ b < a ∧ a < mB n b / a → tyV K "list" (V.ref fnd) H4 ∧ 3 ≤ sizeLine ∧ ∀ p, H4 p = none → ∃ x, (upd H4 p (.tup [.int a, .int (-b), .int (mB n b / a)])) fnd = some (.lst x) ∧ x.length < sizeLine ∧
              N3 [some (.int (-n)), some (.ref fnd), some (.int b), some (.int (mB n b)), some (.ref D), some (.int a), some (.int (mB n b / a)), s7] (upd (upd H4 p (.tup [.int a, .int (-b), .int (mB n b / a)])) fnd (.lst (x ++ [.ref p]))) := fun c => by
            refine ⟨tyL e1, by decide, fun t2 n2 => ?_⟩
            have ft2 : fnd ≠ t2 := ne_of_none e1 n2
            have Dt2 : D ≠ t2 := ne_of_none D1 n2
            refine ⟨_, by rw [upd_ne ft2]; exact e1, by rw [List.length_append, List.length_singleton]; exact small_size (by omega), hN3 _ _ ⟨_, _, _, _, rfl, same_at (same_at S1 (S1.free n2)) nf, ?_, upd_same, ?_⟩⟩
            · rw [upd_ne fD.symm, upd_ne Dt2]
              exact D1
            · rw [if_pos c]
              have := ((T1.updN n2 (o := .tup [.int a, .int (-b), .int (mB n b / a)])).snoc upd_same).updL (f := fnd) (o := .lst (xs' ++ [.ref t1] ++ [.ref t2])) (by rw [upd_ne ft2]; exact e1)
              simpa only [List.append_assoc, List.cons_append, List.nil_append] using this
          have no : ¬ (0 < b ∧ b < a ∧ a < mB n b / a) → N3 [some (.int (-n)), some (.ref fnd), some (.int b), some (.int (mB n b)), some (.ref D), some (.int a), some (.int (mB n b / a)), s7] H4 := fun c => by
            refine hN3 _ _ ⟨_, _, _, _, rfl, S1, D1, e1, ?_⟩
            rw [if_neg c, ← List.append_assoc]
            exact T1
          refine ite2 (fun c1 => ite2 (fun c2 => ?_) (fun c2 => no fun c => c2 c.2.1)) (fun c1 => no fun c => c1 c.1)
          refine ite2 (fun c3 => yes ⟨c1, c2, c3⟩) (fun c3 => no fun c => c3 c.2.2)
        · rintro σ H3 ⟨xs', s5, s6, s7, rfl, sm3, hD3, hf3, ht3⟩
          rw [List.length_map, List.take_length] at ht3
          refine hN _ _ ⟨_, _, _, _, _, _, _, rfl, sm3, hf3, ?_⟩
          unfold rowN
          rw [dv_row]
          exact ht3
    · rintro σ H1 ⟨xs, s2, s3, s4, s5, s6, s7, rfl, sm, hf, ht⟩
      walk_at "rd"
      exact ⟨_, SqL.of hf, _, ht, fun ys us p hy hs hp np => q ys us p _ (same_at sm (sm.free np)) (sm.free np) upd_same (hy.updN np) hs hp⟩
end

section
variable {P : Program} {w : World} {K : PySem.W.Frag} {mg : Str → Option Value} {base : Heap}
abbrev s__law_all_reduced : Stmt := top 24
theorem sc__law_all_reduced : FnScope ["n", "found", "b", "m", "a"] ["n"] (defScope s__law_all_reduced) := ⟨rfl, rfl, rfl, by decide +kernel, rfl, by decide +kernel, by decide +kernel⟩

def spReduced : Sp := fun vs H Q _ => ∃ n : Int, vs = [.int n] ∧ Sm n ∧ GotForms H n Q
theorem cal_reduced (D : Dn K mg "_law_all_reduced" s__law_all_reduced ["n"]) (B : Bl mg) (c__law_root : Cal P w K mg base "_law_root" 1 ["n"] spLawRoot) : Cal P w K mg base "_law_all_reduced" 2 ["n"] spReduced := by
  refine D.cal sc__law_all_reduced (fun vs H Q E h => ?_) (fun f cdv A outer s H vs Q E hr h => ?_)
  · obtain ⟨n, rfl, _⟩ := h
    rfl
  · obtain ⟨n, rfl, hS, q⟩ := h
    refine ⟨_, (pss_cons (ps_set (i := 1) sc__law_all_reduced.nd rfl (Or.inl rfl) (pe_lst pa_nil))
  (pss_cons (ps_for PassesOwn.never rfl (pi_range3 rfl B.range (pa_cons (pe_op op_mod (pe_callTy call_int1 rfl B.int boot_int (pa_cons (pv 0) pa_nil)) pe_int) (pa_cons (pe_op op_add (pe_cal c__law_root (hr.mono (by decide)) rfl (pa_cons (pe_op op_fdivW (pv 0) pe_int) pa_nil)) pe_int) (pa_cons pe_int pa_nil)))) (pg_name (i := 2) sc__law_all_reduced.nd rfl (Or.inl rfl)) (pss_cons (ps_set (i := 3) sc__law_all_reduced.nd rfl (Or.inl rfl) (pe_op op_fdivW (pe_op op_add (pe_op op_mulI (pv 2) (pv 2)) (pv 0)) pe_int))
  (pss_cons (ps_set (i := 4) sc__law_all_reduced.nd rfl (Or.inl rfl) (pe_callB (call_max2 rfl) rfl B.max (by decide +kernel) (pa_cons (pv 2) (pa_cons pe_int pa_nil))))
  (pss_one (ps_while PassesOwn.never (pt_cmpR op_le (pe_op op_mulI (pv 4) (pv 4)) (pv 3) (nomark _)) (pss_cons (ps_if (pt_cmpR op_eq (pe_op op_mod (pe_callTy call_int1 rfl B.int boot_int (pa_cons (pv 3) pa_nil)) (pv 4)) pe_int (nomark _)) (pss_cons (ps_expr (pe_bm PySem.F.plainAttrs_list PySem.F.slot_list_append PySem.F.type_list_append mt_append (pv 1) (pa_cons (pe_tup (pa_cons (pv 4) (pa_cons (pv 2) (pa_cons (pe_op op_fdivW (pv 3) (pv 4)) pa_nil)))) pa_nil)))
  (pss_one (ps_if (PW.pt (pw_and (pt_chain op_lt op_lt pe_int (pv 2) (pv 4)) (pw_and1 (pt_cmpR op_lt (pv 4) (pe_op op_fdivW (pv 3) (pv 4)) (nomark _))))) (pss_one (ps_expr (pe_bm PySem.F.plainAttrs_list PySem.F.slot_list_append PySem.F.type_list_append mt_append (pv 1) (pa_cons (pe_tup (pa_cons (pv 4) (pa_cons (pe_un un_neg (pv 2)) (pa_cons (pe_op op_fdivW (pv 3) (pv 4)) pa_nil)))) pa_nil)))) pss_nil))) pss_nil)
  (pss_one (ps_set (i := 4) sc__law_all_reduced.nd rfl (Or.inl rfl) (pe_op op_add (pv 4) pe_int)))))))))
  (pss_one (ps_ret (pe_callB cr_sorted3 rfl B.sorted (by decide +kernel) (pa_cons (pv 1) pa_nil)))))), ?_⟩
    have r3 := hS.r3
    have hn0 := hS.pos
    have hn1 := hS.le
    walk_at "rd"
    refine ⟨Nat.zero_le _, fun fnd nf => ⟨by decide, ⟨by decide, by decide +kernel⟩, n / 3, rfl, r3.1, big1 r3.1 (by omega), ?_⟩⟩
    walk_at "rd"
    refine ⟨cnt n, RgC2 (by omega) (by omega) (by have := isq_nn (n / 3); omega) (by omega), ForC.w (fun i σ H1 => ∃ xs s2 s3 s4, σ = [some (.int n), some (.ref fnd), s2, s3, s4] ∧ Same H H1 ∧ H1 fnd = some (.lst xs) ∧ Trs H1 xs (formsF n i))
      ⟨[], _, _, _, rfl, same_upd nf, upd_same, Trs.nil⟩ ?_ ?_⟩
    · rintro i σ H1 hi ⟨xs, s2, s3, s4, rfl, sm, hf, ht⟩ N hN
      have hb := hS.b hi
      have hlen := hS.len i (by omega)
      have hcn := hS.cnt
      rw [formsF_succ] at hN
      rw [show n % 2 + (i : Int) * 2 = bAt n i from rfl]
      generalize bAt n i = b at *
      obtain ⟨b0, b1, b2, i1⟩ := hb
      have hm := hS.m b0 b2
      have hk := hS.k b0 b2
      have hx := mx1_ge b
      have q0 := isq_nn (mB n b)
      walk_at "rd"
      rw [show (b * b + n) / 4 = mB n b from rfl, show (if 1 > b then (1 : Int) else b) = mx1 b from rfl]
      have hkk : ((kB n b : Nat) : Int) = isq (mB n b) + 1 - mx1 b ∨ (kB n b = 0 ∧ isq (mB n b) < mx1 b) := by
        unfold kB
        omega
      refine ⟨mulL (by omega), divSmall (by decide) (by decide), while_w (fun σ H3 => ∃ (j : Nat) (xs' : List V), j ≤ kB n b ∧ σ = [some (.int n), some (.ref fnd), some (.int b), some (.int (mB n b)), some (.int (mx1 b + j))] ∧ Same H H3 ∧ H3 fnd = some (.lst xs') ∧ Trs H3 xs' (formsF n i ++ rowF b (mB n b) (mx1 b) j))
        (fun σ _ => match σ with | [_, _, _, _, some (.int a)] => (400000 - a).toNat | _ => 0) ⟨0, xs, Nat.zero_le _, by simp, sm, hf, by simpa [rowF] using ht⟩ ?_⟩
      rintro σ H3 ⟨j, xs', hj, rfl, sm3, hf3, ht3⟩ N3 hN3
      have hl3 : xs'.length ≤ 1200 * i + 2 * j := by
        rw [← ht3.len, List.length_append]
        have := rowF_len b (mB n b) (mx1 b) j
        omega
      generalize ha : mx1 b + (j : Int) = a at *
      have a0 : 0 < a := by omega
      refine ⟨decide (a * a ≤ mB n b), fun Q' q' => ?_, fun hb => ?_, fun hb => ?_⟩
      · walk_at "rd"
        exact ⟨mulL (by omega), q'⟩
      · have hle := (isq_iff hm.1 (by omega)).mp (of_decide_eq_true hb)
        have hjk : j < kB n b := by omega
        have hne : ∀ (xs2 : List V) (H5 : Hp), Same H H5 → H5 fnd = some (.lst xs2) → Trs H5 xs2 (formsF n i ++ rowF b (mB n b) (mx1 b) j ++ cell b (mB n b) a) → N3 [some (.int n), some (.ref fnd), some (.int b), some (.int (mB n b)), some (.int (a + 1))] H5 := by
          intro xs2 H5 g1 g2 g3
          refine hN3 _ _ ⟨j + 1, xs2, hjk, ?_, g1, g2, ?_⟩ (by show (400000 - (a + 1)).toNat < (400000 - a).toNat; omega)
          · rw [← ha]
            simp only [Int.natCast_add, Int.natCast_one, Int.add_assoc]
          · rw [rowF_succ, ha, ← List.append_assoc]
            exact g3
        walk_at "rd"
        refine ⟨by omega, ite2 (fun hdv => ?_) (fun hdv => ?_)⟩
        · refine ⟨tyL hf3, divSmall (by omega) (by omega), by decide, fun t1 n1 => ?_⟩
          have ecell : cell b (mB n b) a = (a, b, mB n b / a) :: (if 0 < b ∧ b < a ∧ a < mB n b / a then [(a, -b, mB n b / a)] else []) := by
            unfold cell
            rw [if_pos hdv]
          rw [ecell] at hne
          have ft1 : fnd ≠ t1 := ne_of_none hf3 n1
          refine ⟨xs', by rw [upd_ne ft1]; exact hf3, small_size (by omega), ?_⟩
          have e1 : (upd (upd H3 t1 (.tup [.int a, .int b, .int (mB n b / a)])) fnd (.lst (xs' ++ [.ref t1]))) fnd = some (.lst (xs' ++ [.ref t1])) := upd_same
          have T1 : Trs (upd (upd H3 t1 (.tup [.int a, .int b, .int (mB n b / a)])) fnd (.lst (xs' ++ [.ref t1]))) (xs' ++ [.ref t1]) (formsF n i ++ rowF b (mB n b) (mx1 b) j ++ [(a, b, mB n b / a)]) :=
            ((ht3.updN n1).snoc upd_same).updL (by rw [upd_ne ft1]; exact hf3)
          have S1 : Same H (upd (upd H3 t1 (.tup [.int a, .int b, .int (mB n b / a)])) fnd (.lst (xs' ++ [.ref t1]))) := same_at (same_at sm3 (sm3.free n1)) nf
          generalize upd (upd H3 t1 (.tup [.int a, .int b, .int (mB n b / a)])) fnd (.lst (xs' ++ [.ref t1])) = H4 at *
          have no : ¬ (0 < b ∧ b < a ∧ a < mB n b / a) → N3 [some (.int n), some (.ref fnd), some (.int b), some (.int (mB n b)), some (.int (a + 1))] H4 := fun c => by
            rw [if_neg c] at hne
            exact hne _ _ S1 e1 T1
          refine ite2 (fun c1 => ite2 (fun c2 => ⟨divSmall (by omega) (by omega), ite2 (fun c3 => ?_) (fun c3 => no fun c => c3 c.2.2)⟩) (fun c2 => no fun c => c2 c.2.1)) (fun c1 => no fun c => c1 c.1)
          refine ⟨tyL e1, divSmall (by omega) (by omega), by decide, fun t2 n2 => ?_⟩
          have ft2 : fnd ≠ t2 := ne_of_none e1 n2
          refine ⟨_, by rw [upd_ne ft2]; exact e1, by rw [List.length_append, List.length_singleton]; exact small_size (by omega), ?_⟩
          rw [if_pos ⟨c1, c2, c3⟩] at hne
          refine hne _ _ (same_at (same_at S1 (S1.free n2)) nf) upd_same ?_
          have := ((T1.updN n2 (o := .tup [.int a, .int (-b), .int (mB n b / a)])).snoc upd_same).updL (f := fnd) (o := .lst (xs' ++ [.ref t1] ++ [.ref t2])) (by rw [upd_ne ft2]; exact e1)
          simpa only [List.append_assoc, List.cons_append, List.nil_append] using this
        · refine hne _ _ sm3 hf3 ?_
          unfold cell
          rw [if_neg hdv, List.append_nil]
          exact ht3
      · have hgt : ¬ a ≤ isq (mB n b) := fun z => of_decide_eq_false hb ((isq_iff hm.1 (by omega)).mpr z)
        have hjk : j = kB n b := by omega
        walk_at "rd"
        refine hN _ _ ⟨_, _, _, _, rfl, sm3, hf3, ?_⟩
        unfold rowN
        rw [← hjk]
        exact ht3
    · rintro σ H1 ⟨xs, s2, s3, s4, rfl, sm, hf, ht⟩
      walk_at "rd"
      exact ⟨_, SqL.of hf, _, ht, fun ys us p hy hs hp np => q ys us p _ (same_at sm (sm.free np)) (sm.free np) upd_same (hy.updN np) hs hp⟩
end

/-! ### the sum of the weights -/
def wt (t : T3) : Int := if t.1 = t.2.1 ∧ t.2.1 = t.2.2 then 4 else if t.2.1 = 0 ∧ t.1 = t.2.2 then 6 else 12
def hsum (l : List T3) : Int := (l.map wt).sum
def due (n : Int) : Int := if n = 0 then -1 else if n < 0 ∨ n % 4 = 1 ∨ n % 4 = 2 then 0 else hsum (forms n)
theorem perm_sum : ∀ {l m : List Int}, l.Perm m → l.sum = m.sum := fun h => by
  induction h with
  | nil => rfl
  | cons x _ ih => rw [List.sum_cons, List.sum_cons, ih]
  | swap x y l => rw [List.sum_cons, List.sum_cons, List.sum_cons, List.sum_cons]; omega
  | trans _ _ h1 h2 => exact h1.trans h2
theorem hsum_perm {l m : List T3} (h : l.Perm m) : hsum l = hsum m := perm_sum (h.map wt)
theorem hsum_take {l : List T3} {i : Nat} {t : T3} (h : l[i]? = some t) : hsum (l.take (i + 1)) = hsum (l.take i) + wt t := by
  unfold hsum
  rw [List.take_add_one, h, List.map_append, List.sum_append]
  simp
section
variable {P : Program} {w : World} {K : PySem.W.Frag} {mg : Str → Option Value} {base : Heap}
abbrev s__law_due : Stmt := top 26
theorem sc__law_due : FnScope ["n", "total", "a", "b", "c"] ["n"] (defScope s__law_due) := ⟨rfl, rfl, rfl, by decide +kernel, rfl, by decide +kernel, by decide +kernel⟩

def spDue : Sp := fun vs H Q _ => ∃ n : Int, vs = [.int n] ∧ n ≤ 1000000 ∧ ∀ H', Same H H' → Q (.int (due n)) H'
theorem cal_due (D : Dn K mg "_law_due" s__law_due ["n"]) (B : Bl mg) (c__law_all_reduced : Cal P w K mg base "_law_all_reduced" 2 ["n"] spReduced) : Cal P w K mg base "_law_due" 3 ["n"] spDue := by
  refine D.cal sc__law_due (fun vs H Q E h => ?_) (fun f cdv A outer s H vs Q E hr h => ?_)
  · obtain ⟨n, rfl, _⟩ := h
    rfl
  · obtain ⟨n, rfl, hn, q⟩ := h
    refine ⟨_, (pss_cons (ps_if (pt_cmpR op_eq (pv 0) pe_int (nomark _)) (pss_one (ps_ret (pe_un un_neg pe_int))) pss_nil)
  (pss_cons (ps_if (PW.pt (pw_or (pt_cmpR op_lt (pv 0) pe_int (nomark _)) (pw_or (pt_cmpR op_eq (pe_op op_mod (pe_callTy call_int1 rfl B.int boot_int (pa_cons (pv 0) pa_nil)) pe_int) pe_int (nomark _)) (pw_or1 (pt_cmpR op_eq (pe_op op_mod (pe_callTy call_int1 rfl B.int boot_int (pa_cons (pv 0) pa_nil)) pe_int) pe_int (nomark _)))))) (pss_one (ps_ret pe_int)) pss_nil)
  (pss_cons (ps_set (i := 1) sc__law_due.nd rfl (Or.inl rfl) pe_int)
  (pss_cons (ps_for PassesOwn.never rfl (pi_list (pe_cal c__law_all_reduced (hr.mono (by decide)) rfl (pa_cons (pv 0) pa_nil))) (pg_tup rfl (pgs_cons (pg_name (i := 2) sc__law_due.nd rfl (Or.inl rfl)) (pgs_cons (pg_name (i := 3) sc__law_due.nd rfl (Or.inl rfl)) (pgs_cons (pg_name (i := 4) sc__law_due.nd rfl (Or.inl rfl)) pgs_nil)))) (pss_one (ps_set (i := 1) sc__law_due.nd rfl (Or.inl rfl) (pe_op op_add (pv 1) (pe_ifExp (PW.pt (pw_and (pt_cmpR op_eq (pv 2) (pv 3) (nomark _)) (pw_and1 (pt_cmpR op_eq (pv 3) (pv 4) (nomark _))))) pe_int (pe_ifExp (PW.pt (pw_and (pt_cmpR op_eq (pv 3) pe_int (nomark _)) (pw_and1 (pt_cmpR op_eq (pv 2) (pv 4) (nomark _))))) pe_int pe_int))))))
  (pss_one (ps_ret (pv 1))))))), ?_⟩
    walk_at "rd"
    refine ite2 (fun h0 => ?_) (fun h0 => ?_)
    · have := q H (Same.refl H)
      unfold due at this
      rw [if_pos h0] at this
      exact this
    have z : (n < 0 ∨ n % 4 = 1 ∨ n % 4 = 2) → Q (.int 0) H := fun c => by
      have := q H (Same.refl H)
      unfold due at this
      rw [if_neg h0, if_pos c] at this
      exact this
    refine ite2 (fun h1 => z (.inl h1)) (fun h1 => ⟨by decide, ite2 (fun h2 => z (.inr (.inl h2))) (fun h2 => ⟨by decide, ite2 (fun h3 => z (.inr (.inr h3))) (fun h3 => ?_)⟩)⟩)
    have hS : Sm n := ⟨by omega, hn⟩
    refine ⟨n, rfl, hS, fun ys us p H1 sm np hp ht hs hperm => ?_⟩
    walk_at "rd"
    refine ⟨⟨_, SqL.of hp⟩, ForL.w (xs := ys) (fun i σ H2 => ∃ s2 s3 s4, σ = [some (.int n), some (.int (hsum (us.take i))), s2, s3, s4] ∧ H2 = H1) ⟨_, _, _, rfl, rfl⟩ ?_ ?_ ?_⟩
    · rintro i σ H2 _ ⟨s2, s3, s4, rfl, rfl⟩
      exact SqL.of hp
    · rintro i v σ H2 hv ⟨s2, s3, s4, rfl, rfl⟩ N hN
      obtain ⟨r, a, b, c, rfl, hr3, hu⟩ := ht.get hv
      rw [hsum_take hu] at hN
      walk_at "rd"
      refine ⟨_, SqT.of hr3, rfl, _, _, rfl, _, _, rfl, _, _, rfl, rfl, ?_⟩
      walk_at "rd"
      have e : ∀ x : Int, wt (a, b, c) = x → N [some (.int n), some (.int (hsum (us.take i) + x)), some (.int a), some (.int b), some (.int c)] H2 := fun x hx => hN _ _ ⟨_, _, _, by rw [hx], rfl⟩
      unfold wt at e
      simp only at e
      refine ite2 (fun c1 => ite2 (fun c2 => e 4 (if_pos ⟨c1, c2⟩)) (fun c2 => ?_)) (fun c1 => ?_)
      · refine ite2 (fun c3 => ite2 (fun c4 => e 6 ?_) (fun c4 => e 12 ?_)) (fun c3 => e 12 ?_)
        · rw [if_neg (fun z => c2 z.2), if_pos ⟨c3, c4⟩]
        · rw [if_neg (fun z => c2 z.2), if_neg (fun z => c4 z.2)]
        · rw [if_neg (fun z => c2 z.2), if_neg (fun z => c3 z.1)]
      · refine ite2 (fun c3 => ite2 (fun c4 => e 6 ?_) (fun c4 => e 12 ?_)) (fun c3 => e 12 ?_)
        · rw [if_neg (fun z => c1 z.1), if_pos ⟨c3, c4⟩]
        · rw [if_neg (fun z => c1 z.1), if_neg (fun z => c4 z.2)]
        · rw [if_neg (fun z => c1 z.1), if_neg (fun z => c3 z.1)]
    · rintro σ H2 ⟨s2, s3, s4, rfl, rfl⟩
      walk_at "rd"
      have := q H2 sm
      unfold due at this
      rw [if_neg h0, if_neg (by omega)] at this
      rw [← ht.len, List.take_length, hsum_perm hperm]
      exact this
abbrev s__weight : Stmt := top 16
theorem sc__weight : FnScope ["f", "a", "b", "c"] ["f"] (defScope s__weight) := ⟨rfl, rfl, rfl, by decide +kernel, rfl, by decide +kernel, by decide +kernel⟩

def spWt : Sp := fun vs H Q _ => ∃ (r : Addr) (a b c : Int), vs = [.ref r] ∧ H r = some (.tup [.int a, .int b, .int c]) ∧ Q (.int (wt (a, b, c))) H
theorem cal_weight (D : Dn K mg "_weight" s__weight ["f"]) (B : Bl mg) : Cal P w K mg base "_weight" 1 ["f"] spWt := by
  refine D.cal sc__weight (fun vs H Q E h => ?_) (fun f cdv A outer s H vs Q E hr h => ?_)
  · obtain ⟨r, a, b, c, rfl, _⟩ := h
    rfl
  · obtain ⟨r, a, b, c, rfl, ht, q⟩ := h
    refine ⟨_, (pss_cons (ps_asg (pv 0) (pg_tup rfl (pgs_cons (pg_name (i := 1) sc__weight.nd rfl (Or.inl rfl)) (pgs_cons (pg_name (i := 2) sc__weight.nd rfl (Or.inl rfl)) (pgs_cons (pg_name (i := 3) sc__weight.nd rfl (Or.inl rfl)) pgs_nil)))))
  (pss_cons (ps_if (pt_chain op_eq op_eq (pv 1) (pv 2) (pv 3)) (pss_one (ps_ret pe_int)) pss_nil)
  (pss_cons (ps_if (PW.pt (pw_and (pt_cmpR op_eq (pv 1) (pv 3) (nomark _)) (pw_and1 (pt_cmpR op_eq (pv 2) pe_int (nomark _))))) (pss_one (ps_ret pe_int)) pss_nil)
  (pss_one (ps_ret pe_int))))), ?_⟩
    walk_at "rd"
    refine ⟨_, SqT.of ht, rfl, _, _, rfl, _, _, rfl, _, _, rfl, rfl, ?_⟩
    walk_at "rd"
    have e : ∀ x : Int, wt (a, b, c) = x → Q (.int x) H := fun x hx => by rw [← hx]; exact q
    unfold wt at e
    simp only at e
    refine ite2 (fun c1 => ite2 (fun c2 => e 4 (if_pos ⟨c1, c2⟩)) (fun c2 => ?_)) (fun c1 => ?_)
    · refine ite2 (fun c3 => ite2 (fun c4 => e 6 ?_) (fun c4 => e 12 ?_)) (fun c3 => e 12 ?_)
      · rw [if_neg (fun z => c2 z.2), if_pos ⟨c4, c3⟩]
      · rw [if_neg (fun z => c2 z.2), if_neg (fun z => c4 z.1)]
      · rw [if_neg (fun z => c2 z.2), if_neg (fun z => c3 z.2)]
    · refine ite2 (fun c3 => ite2 (fun c4 => e 6 ?_) (fun c4 => e 12 ?_)) (fun c3 => e 12 ?_)
      · rw [if_neg (fun z => c1 z.1), if_pos ⟨c4, c3⟩]
      · rw [if_neg (fun z => c1 z.1), if_neg (fun z => c4 z.1)]
      · rw [if_neg (fun z => c1 z.1), if_neg (fun z => c3 z.2)]
end

section
variable {P : Program} {w : World} {K : PySem.W.Frag} {mg : Str → Option Value} {base : Heap} {CM CR : Addr}
abbrev s_hurwitz : Stmt := top 15
theorem sc_hurwitz : FnScope ["n", "f"] ["n"] (defScope s_hurwitz) := ⟨rfl, rfl, rfl, by decide +kernel, rfl, by decide +kernel, by decide +kernel⟩

/-- what hurwitz tells, or raises -/
def spHur (K : PySem.W.Frag) (CM CR : Addr) : Sp := fun vs H Q E => ∃ v : V, vs = [v] ∧
  ((∃ T, TyX K H v (.type T) ∧ T ∈ kinds ∧ (T == "int") = false ∧ E (.ref CM) none H) ∨
   (∃ n : Int, v = .int n ∧ 1000000 < n ∧ ∀ d H', Same H H' → H d = none → H' d = some (.xd [("reason", .str "large")]) → E (.ref CR) (some d) H') ∨
   (∃ n : Int, v = .int n ∧ n ≤ 1000000 ∧ ∀ H', Same H H' → Q (.int (due n)) H'))
theorem cal_hurwitz (D : Dn K mg "hurwitz" s_hurwitz ["n"]) (B : Bl mg) (c_is_integer : Cal P w K mg base "is_integer" 1 ["value"] (spInt K)) (c__counted_forms : Cal P w K mg base "_counted_forms" 2 ["D"] spCounted)
    (c__weight : Cal P w K mg base "_weight" 1 ["f"] spWt) (e_E : ErrI P w K mg base CM CR) : CalX P w K mg base "hurwitz" 3 ["n"] (spHur K CM CR) := by
  refine D.calX sc_hurwitz (fun vs H Q E h => ?_) (fun f cdv A outer s H vs Q E hr h => ?_)
  · obtain ⟨v, rfl, _⟩ := h
    rfl
  · obtain ⟨v, rfl, h⟩ := h
    refine ⟨_, (pss_cons (ps_if (pt_not (pt_val (pe_cal c_is_integer (hr.mono (by decide)) rfl (pa_cons (pv 0) pa_nil)))) (pss_one (ps_mal e_E.m rfl (takes_of rfl rfl rfl rfl) rfl)) pss_nil)
  (pss_cons (ps_if (pt_cmpR op_gt (pv 0) (pe_glob (v := .int 1000000) rfl B.c_LARGEST.choose_spec ⟨_, rfl⟩) (nomark _)) (pss_one (ps_ref e_E rfl (takes_of rfl rfl rfl rfl) (hr.mono (by decide)) rfl)) pss_nil)
  (pss_cons (ps_if (pt_cmpR op_eq (pv 0) pe_int (nomark _)) (pss_one (ps_ret (pe_un un_neg pe_int))) pss_nil)
  (pss_cons (ps_if (PW.pt (pw_or (pt_cmpR op_lt (pv 0) pe_int (nomark _)) (pw_or1 (pt_cmpR op_in_seq (pe_op op_mod (pv 0) pe_int) (pe_tup (pa_cons pe_int (pa_cons pe_int pa_nil))) (by rfl))))) (pss_one (ps_ret pe_int)) pss_nil)
  (pss_one (ps_ret (pe_callB (cr_sum rfl) rfl B.sum (by decide +kernel) (pa_cons (pe_lc (own := [("f", 1)]) rfl sc_hurwitz.nd (pi_list (pe_cal c__counted_forms (hr.mono (by decide)) rfl (pa_cons (pe_un un_neg (pv 0)) pa_nil))) (blkOk_by (N := ["n", "f"]) (sc := defScope s_hurwitz) (own := [("f", 1)]) (by decide +kernel)) (fun _ _ _ _ _ => (pg_name (i := 1) sc_hurwitz.nd rfl (Or.inl rfl))) (fun _ _ _ _ _ => pts_nil) (fun _ _ _ _ _ => (pe_cal c__weight (hr.mono (by decide)) rfl (pa_cons (pv 1) pa_nil)))) pa_nil)))))))), ?_⟩
    walk_at "rd"
    rcases h with ⟨T, ty, hT, hi, e⟩ | ⟨n, rfl, hn, e⟩ | ⟨n, rfl, hn, q⟩
    · refine ⟨v, T, rfl, ty, hT, false, by rw [hi], ?_⟩
      rw [if_pos (by decide)]
      exact e
    · refine ⟨.int n, "int", rfl, .base (.int n), by decide, true, rfl, ?_⟩
      walk_at "rd"
      rw [if_pos hn]
      exact e
    · refine ⟨.int n, "int", rfl, .base (.int n), by decide, true, rfl, ?_⟩
      walk_at "rd"
      rw [if_neg (by omega)]
      have q0 := q H (Same.refl H)
      have z : ∀ H', Same H H' → (n < 0 ∨ n % 4 = 1 ∨ n % 4 = 2) → n ≠ 0 → Q (.int 0) H' := fun H' sm c h0 => by
        have := q H' sm
        unfold due at this
        rw [if_neg h0, if_pos c] at this
        exact this
      refine ite2 (fun h0 => ?_) (fun h0 => ite2 (fun h1 => z H (Same.refl H) (.inl h1) h0) (fun h1 => ⟨by decide, by decide, fun p np => ?_⟩))
      · unfold due at q0
        rw [if_pos h0] at q0
        exact q0
      have s1 : Same H (upd H p (.tup [V.int 1, V.int 2])) := same_upd np
      refine ⟨p, _, rfl, .inr (SqT.of upd_same), rfl, rfl, inV (.int (n % 4)) [.int 1, .int 2], rfl, ?_⟩
      have ein : inV (.int (n % 4)) [V.int 1, V.int 2] = decide (n % 4 = 1 ∨ n % 4 = 2) := by
        have e1 : inV (.int (n % 4)) [V.int 1, V.int 2] = ((1 : Int) == n % 4 || ((2 : Int) == n % 4 || false)) := rfl
        rw [e1]
        by_cases c1 : n % 4 = 1
        · simp [c1]
        · by_cases c2 : n % 4 = 2
          · simp [c2]
          · have d1 : ¬ (1 : Int) = n % 4 := fun z => c1 z.symm
            have d2 : ¬ (2 : Int) = n % 4 := fun z => c2 z.symm
            simp [c1, c2, d1, d2]
      rw [ein]
      refine ite2 (fun c => z _ s1 (.inr (of_decide_eq_true c)) h0) (fun c => ?_)
      have c' : ¬ (n % 4 = 1 ∨ n % 4 = 2) := fun z => c (decide_eq_true z)
      have hS : Sm n := ⟨by omega, hn⟩
      refine ⟨n, rfl, hS, fun ys us a H1 sm na ha ht hs hperm => ?_⟩
      walk_at "rd"
      have hlen : ys.length ≤ 1200 * cnt n := by
        rw [← ht.len, hperm.length_eq]
        exact hS.len _ (Nat.le_refl _)
      have hcn := hS.cnt
      refine ⟨⟨_, SqL.of ha⟩, LcL.w (xs := ys) (fun i D zs H2 => zs = ((us.take i).map wt).map V.int ∧ H2 = upd H1 D (.lst zs) ∧ H1 D = none) (fun D nD => ⟨rfl, rfl, nD⟩) ?_ ?_ ?_⟩
      · rintro D i zs H2 _ ⟨rfl, rfl, nD⟩
        exact SqL.of (by rw [upd_ne (ne_of_none ha nD)]; exact ha)
      · rintro D i v zs H2 hv ⟨rfl, rfl, nD⟩ N hN
        obtain ⟨r, x, y, z', rfl, hr3, hu⟩ := ht.get hv
        have hi : i < ys.length := (List.getElem?_eq_some_iff.mp hv).1
        walk_at "rd"
        refine ⟨r, x, y, z', rfl, by rw [upd_ne (ne_of_none hr3 nD)]; exact hr3, _, upd_same, ?_, hN _ _ ⟨?_, upd_upd, nD⟩⟩
        · rw [List.length_map, List.length_map, List.length_take]
          exact small_size (by omega)
        · rw [List.take_add_one, hu]
          simp
      · rintro D zs H2 nD ⟨rfl, rfl, _⟩
        walk_at "rd"
        refine ⟨_, SqL.of upd_same, ?_⟩
        have := q (upd H1 D (.lst (((us.take ys.length).map wt).map V.int))) (s1.trans (sm.trans (same_upd nD)))
        unfold due at this
        rw [if_neg h0, if_neg (fun z => z.elim h1 c')] at this
        rw [← ht.len, List.take_length] at this ⊢
        rw [← hsum_perm hperm] at this
        exact this
abbrev s__law_plain : Stmt := top 22
theorem sc__law_plain : FnScope ["value", "item"] ["value"] (defScope s__law_plain) := ⟨rfl, rfl, rfl, by decide +kernel, rfl, by decide +kernel, by decide +kernel⟩

def spPlainI : Sp := fun vs H Q _ => ∃ n : Int, vs = [.int n] ∧ Q (.int n) H
theorem cal_plain (D : Dn K mg "_law_plain" s__law_plain ["value"]) (B : Bl mg) (c__law_whole : Cal P w K mg base "_law_whole" 1 ["value"] (spInt K)) : Cal P w K mg base "_law_plain" 2 ["value"] spPlainI := by
  refine D.cal sc__law_plain (fun vs H Q E h => ?_) (fun f cdv A outer s H vs Q E hr h => ?_)
  · obtain ⟨n, rfl, _⟩ := h
    rfl
  · obtain ⟨n, rfl, q⟩ := h
    refine ⟨_, (pss_cons (ps_if (pt_val (pe_callB call_isi rfl B.isinstance (by decide +kernel) (pa_cons (pv 0) (pa_cons (pe_bltn (v := .ty "tuple") rfl B.tuple boot_tuple rfl) pa_nil)))) pss_never pss_nil)
  (pss_one (ps_ret (pe_ifExp (PW.pt (pw_or (pt_cmpR op_isN (pv 0) pe_non (nomark _)) (pw_or1 (pt_val (pe_cal c__law_whole (hr.mono (by decide)) rfl (pa_cons (pv 0) pa_nil)))))) (pv 0) pe_str)))), ?_⟩
    walk_at "rd"
    refine isi_mk (.base (.int n)) (b := false) (by decide +kernel) ⟨false, rfl, ?_⟩
    rw [if_neg Bool.false_ne_true]
    refine ⟨.int n, "int", rfl, .base (.int n), by decide, true, rfl, ?_⟩
    rw [if_pos rfl]
    exact q
abbrev s__law_no_word : Stmt := top 18
theorem sc__law_no_word : FnScope ["value"] ["value"] (defScope s__law_no_word) := ⟨rfl, rfl, rfl, by decide +kernel, rfl, by decide +kernel, by decide +kernel⟩

theorem cal_no_word (D : Dn K mg "_law_no_word" s__law_no_word ["value"]) (B : Bl mg) : Cal P w K mg base "_law_no_word" 1 ["value"] spPlainI := by
  refine D.cal sc__law_no_word (fun vs H Q E h => ?_) (fun f cdv A outer s H vs Q E hr h => ?_)
  · obtain ⟨n, rfl, _⟩ := h
    rfl
  · obtain ⟨n, rfl, q⟩ := h
    refine ⟨_, (pss_one (ps_ret (pe_ifExp (pt_val (pe_callB call_isi rfl B.isinstance (by decide +kernel) (pa_cons (pv 0) (pa_cons (pe_bltn (v := .ty "str") rfl B.str boot_str rfl) pa_nil)))) pe_str (pv 0)))), ?_⟩
    walk_at "rd"
    refine isi_mk (.base (.int n)) (b := false) (by decide +kernel) ⟨false, rfl, ?_⟩
    rw [if_neg Bool.false_ne_true]
    exact q
abbrev s__law_told : Stmt := top 25
theorem sc__law_told : FnScope ["n", "e"] ["n"] (defScope s__law_told) := ⟨rfl, rfl, rfl, by decide +kernel, rfl, by decide +kernel, by decide +kernel⟩

def spTold (K : PySem.W.Frag) : Sp := fun vs H Q _ => ∃ v : V, vs = [v] ∧
  ((∃ T, TyX K H v (.type T) ∧ T ∈ kinds ∧ (T == "int") = false ∧ Q (.str "malformed") H) ∨
   (∃ n : Int, v = .int n ∧ 1000000 < n ∧ ∀ H', Same H H' → Q (.str "large") H') ∨
   (∃ n : Int, v = .int n ∧ n ≤ 1000000 ∧ ∀ H', Same H H' → Q (.int (due n)) H'))
theorem cal_told (D : Dn K mg "_law_told" s__law_told ["n"]) (B : Bl mg) (c_hurwitz : CalX P w K mg base "hurwitz" 3 ["n"] (spHur K CM CR)) (c__law_plain : Cal P w K mg base "_law_plain" 2 ["value"] spPlainI)
    (c__law_no_word : Cal P w K mg base "_law_no_word" 1 ["value"] spPlainI) (e_E : ErrI P w K mg base CM CR) : Cal P w K mg base "_law_told" 4 ["n"] (spTold K) := by
  refine D.cal sc__law_told (fun vs H Q E h => ?_) (fun f cdv A outer s H vs Q E hr h => ?_)
  · obtain ⟨v, rfl, _⟩ := h
    rfl
  · obtain ⟨v, rfl, h⟩ := h
    obtain ⟨fI, fdI, R, _, _⟩ := e_E.r
    refine ⟨_, (pss_one (ps_tryA rfl rfl sc__law_told.nd takes0 (fun W pn xe tk _ => (pss_one (ps_ret (pe_cal c__law_no_word (hr.mono (by decide)) rfl (pa_cons (pe_cal c__law_plain (hr.mono (by decide)) rfl (pa_cons (pe_calS c_hurwitz tk (hr.mono (by decide)) rfl (pa_cons (pv 0) pa_nil)) pa_nil)) pa_nil))))) (HdA.bare ⟨rfl, by decide, .inl e_E.m.g⟩ (fun a oe cls d pn _ _ => (pss_one (ps_ret pe_str))) (HdA.named ⟨rfl, by decide, .inl R.g⟩ (i := 1) rfl rfl (fun a oe cls d pn hz hf => (pss_one (ps_ret (pe_xf R.xf R.n hz hf (pv 1))))) HdA.nil)))), ?_⟩
    walk_at "rd"
    refine ⟨v, rfl, ?_⟩
    rcases h with ⟨T, ty, hT, hi, e⟩ | ⟨n, rfl, hn, e⟩ | ⟨n, rfl, hn, q⟩
    · refine .inl ⟨T, ty, hT, hi, true, e_E.m.mm, fun _ a na => ?_, fun z => by cases z⟩
      exact e
    · refine .inr (.inl ⟨n, rfl, hn, fun d H' sm nd hd => ⟨false, R.rm, fun z => (by cases z), fun _ => ⟨true, R.rr, fun _ a na => ?_, fun z => by cases z⟩⟩⟩)
      exact ⟨_, rfl, rfl, rfl, d, _, _, rfl, hd, rfl, e H' sm⟩
    · refine .inr (.inr ⟨n, rfl, hn, fun H' sm => ⟨due n, rfl, due n, rfl, q H' sm⟩⟩)
end

section
variable {P : Program} {w : World} {K : PySem.W.Frag} {mg : Str → Option Value} {base : Heap} {CM CR : Addr}
theorem due_neg {n : Int} (h : n < 0) : due n = 0 := by
  unfold due
  rw [if_neg (by omega), if_pos (.inl h)]
theorem due_0 : due 0 = -1 := rfl
theorem due_1 : due 1 = 0 := rfl
theorem due_2 : due 2 = 0 := rfl
abbrev s_law : Stmt := top 27
theorem sc_law : FnScope ["script", "state", "start", "n", "k", "great"] ["script"] (defScope s_law) := ⟨rfl, rfl, rfl, by decide +kernel, rfl, by decide +kernel, by decide +kernel⟩

def spLaw (K : PySem.W.Frag) : Sp := fun vs H Q _ => ∃ (a : Addr) (ns : List Int), vs = [.ref a] ∧ SqL K H a (ns.map V.int) ∧ ns.length ≤ 63 ∧ ∀ H', Q (.bl true) H'
theorem ok_law {f : Addr} {fd : FuncData} (F : Fun K "law" "law" s_law f fd) (B : Bl mg) (c__law_state : Cal P w K mg base "_law_state" 1 ["script"] (spState K)) (c__law_take : Cal P w K mg base "_law_take" 1 ["state", "m"] spTake)
    (c__law_told : Cal P w K mg base "_law_told" 4 ["n"] (spTold K)) (c__law_due : Cal P w K mg base "_law_due" 3 ["n"] spDue) : FnOk P w K mg base CX0 5 f fd ["script"] (spLaw K) := by
  refine F.ok sc_law (fun vs H Q E h => ?_) (fun cdv A outer s H vs Q E hr h => ?_)
  · obtain ⟨a, ns, rfl, _⟩ := h
    rfl
  · obtain ⟨a, ns, rfl, hS, hl, q⟩ := h
    refine ⟨_, (pss_cons (ps_set (i := 1) sc_law.nd rfl (Or.inl rfl) (pe_cal c__law_state (hr.mono (by decide)) rfl (pa_cons (pv 0) pa_nil)))
  (pss_cons (ps_set (i := 2) sc_law.nd rfl (Or.inl rfl) (pe_cal c__law_take (hr.mono (by decide)) rfl (pa_cons (pv 1) (pa_cons pe_int pa_nil))))
  (pss_cons (ps_for PassesOwn.never rfl (pi_range2 rfl B.range (pa_cons (pv 2) (pa_cons (pe_op op_add (pv 2) pe_int) pa_nil))) (pg_name (i := 3) sc_law.nd rfl (Or.inl rfl)) (pss_one (ps_if (pt_cmpR op_ne (pe_cal c__law_told (hr.mono (by decide)) rfl (pa_cons (pv 3) pa_nil)) (pe_cal c__law_due (hr.mono (by decide)) rfl (pa_cons (pv 3) pa_nil)) (nomark _)) (pss_one (ps_ret pe_bl)) pss_nil)))
  (pss_cons (ps_set (i := 4) sc_law.nd rfl (Or.inl rfl) (pe_op op_add pe_int (pe_cal c__law_take (hr.mono (by decide)) rfl (pa_cons (pv 1) (pa_cons pe_int pa_nil)))))
  (pss_cons (ps_set (i := 5) sc_law.nd rfl (Or.inl rfl) (pe_ix ix_list (pe_lst (pa_cons (pe_op op_mulI (pe_op op_mulI pe_int (pv 4)) (pv 4)) (pa_cons (pe_op op_mulI (pe_op op_mulI pe_int (pv 4)) (pv 4)) (pa_cons (pe_op op_sub pe_int (pe_cal c__law_take (hr.mono (by decide)) rfl (pa_cons (pv 1) (pa_cons pe_int pa_nil)))) (pa_cons (pe_op op_sub pe_int (pe_cal c__law_take (hr.mono (by decide)) rfl (pa_cons (pv 1) (pa_cons pe_int pa_nil)))) pa_nil))))) (pe_cal c__law_take (hr.mono (by decide)) rfl (pa_cons (pv 1) (pa_cons pe_int pa_nil))) (fun _ _ => rfl)))
  (pss_cons (ps_if (pt_cmpR op_ne (pe_cal c__law_told (hr.mono (by decide)) rfl (pa_cons (pv 5) pa_nil)) (pe_cal c__law_due (hr.mono (by decide)) rfl (pa_cons (pv 5) pa_nil)) (nomark _)) (pss_one (ps_ret pe_bl)) pss_nil)
  (pss_cons (ps_if (pt_cmpR (op_neD hr.units) (pe_lc (own := [("n", 3)]) rfl sc_law.nd (pi_tup (pe_tup (pa_cons pe_int (pa_cons pe_int (pa_cons pe_int (pa_cons (pe_un un_neg pe_int) (pa_cons (pe_un un_neg pe_int) (pa_cons (pe_un un_neg pe_int) (pa_cons (pe_un un_neg (pe_op op_pow pe_int pe_int)) pa_nil))))))))) (blkOk_by (N := ["script", "state", "start", "n", "k", "great"]) (sc := defScope s_law) (own := [("n", 3)]) (by decide +kernel)) (fun _ _ _ _ _ => (pg_name (i := 3) sc_law.nd rfl (Or.inl rfl))) (fun _ _ _ _ _ => pts_nil) (fun _ _ _ _ _ => (pe_cal c__law_told (hr.mono (by decide)) rfl (pa_cons (pv 3) pa_nil)))) (pe_lst (pa_cons (pe_un un_neg pe_int) (pa_cons pe_int (pa_cons pe_int (pa_cons pe_int (pa_cons pe_int (pa_cons pe_int (pa_cons pe_int pa_nil)))))))) (nomark _)) (pss_one (ps_ret pe_bl)) pss_nil)
  (pss_cons (ps_if (pt_cmpR (op_neD hr.units) (pe_lc (own := [("n", 3)]) rfl sc_law.nd (pi_tup (pe_tup (pa_cons pe_int (pa_cons pe_int (pa_cons (pe_op op_pow pe_int pe_int) pa_nil))))) (blkOk_by (N := ["script", "state", "start", "n", "k", "great"]) (sc := defScope s_law) (own := [("n", 3)]) (by decide +kernel)) (fun _ _ _ _ _ => (pg_name (i := 3) sc_law.nd rfl (Or.inl rfl))) (fun _ _ _ _ _ => pts_nil) (fun _ _ _ _ _ => (pe_cal c__law_told (hr.mono (by decide)) rfl (pa_cons (pv 3) pa_nil)))) (pe_op op_rep (pe_lst (pa_cons pe_str pa_nil)) pe_int) (nomark _)) (pss_one (ps_ret pe_bl)) pss_nil)
  (pss_one (ps_ret (pe_cmpR op_eq (pe_cal c__law_told (hr.mono (by decide)) rfl (pa_cons (pe_ix ix_list (pe_lst (pa_cons pe_non (pa_cons pe_bl (pa_cons pe_bl (pa_cons pe_str (pa_cons (pe_tup (pa_cons pe_int pa_nil)) (pa_cons (pe_lst (pa_cons pe_int pa_nil)) (pa_cons (pe_tup pa_nil) pa_nil)))))))) (pe_cal c__law_take (hr.mono (by decide)) rfl (pa_cons (pv 1) (pa_cons pe_int pa_nil))) (fun _ _ => rfl)) pa_nil)) pe_str (nomark _)))))))))))), ?_⟩
    try walk_at "rd"
    refine ⟨a, ns, rfl, hS, hl, fun st x y H1 sm1 nst hst => ?_⟩
    try walk_at "rd"
    refine ⟨st, x, y, 2000, rfl, hst, by decide, by decide +kernel, fun start x1 y1 s0 s1 => ?_⟩
    try walk_at "rd"
    rw [show (start + 6 - start).toNat = 6 by omega]
    have told : ∀ (n : Int) (H0 : Hp) (Q' : VK) (E' : XK), n ≤ 1000000 → (∀ H', Same H0 H' → Q' (.int (due n)) H') → spTold K [.int n] H0 Q' E' := fun n H0 Q' E' hn hq => ⟨.int n, rfl, .inr (.inr ⟨n, rfl, hn, hq⟩)⟩
    refine ⟨by omega, by omega, by omega, by omega, ForR.w (fun i σ H2 => ∃ s3, σ = [some (.ref a), some (.ref st), some (.int start), s3, none, none] ∧ ∃ x y, H2 st = some (.lst [.int x, .int y])) ⟨_, rfl, _, _, upd_same⟩ ?_ ?_⟩
    · rintro i σ H2 hi ⟨s3, rfl, x2, y2, h2⟩ N hN
      try walk_at "rd"
      refine told _ _ _ _ (by omega) fun H3 sm3 => ?_
      try walk_at "rd"
      refine ⟨start + (i : Int), rfl, by omega, fun H4 sm4 => ?_⟩
      try walk_at "rd"
      exact hN _ _ ⟨_, rfl, x2, y2, sm4 _ _ (sm3 _ _ h2)⟩
    rintro σ H2 ⟨s3, rfl, x2, y2, h2⟩
    try walk_at "rd"
    refine ⟨st, x2, y2, 60, rfl, h2, by decide, by decide +kernel, fun k0 x3 y3 k1 k2 => ?_⟩
    try walk_at "rd"
    refine ⟨mulL (by decide), mulL (by omega), mulL (by decide), mulL (by omega), ?_⟩
    refine ⟨st, x3, y3, 900000, rfl, upd_same, by decide, by decide +kernel, fun v1 x4 y4 v10 v11 => ?_⟩
    try walk_at "rd"
    refine ⟨st, x4, y4, 3, rfl, upd_same, by decide, by decide +kernel, fun v2 x5 y5 v20 v21 => ?_⟩
    try walk_at "rd"
    refine ⟨by decide, fun p np => ?_⟩
    have eS : (upd (upd (upd H2 st (HO.lst [V.int x3, V.int y3])) st (HO.lst [V.int x4, V.int y4])) st (HO.lst [V.int x5, V.int y5])) st = some (.lst [.int x5, .int y5]) := upd_same
    generalize upd (upd (upd H2 st (HO.lst [V.int x3, V.int y3])) st (HO.lst [V.int x4, V.int y4])) st (HO.lst [V.int x5, V.int y5]) = H5 at *
    have sp : st ≠ p := ne_of_none eS np
    refine ⟨st, x5, y5, 4, rfl, by rw [upd_ne sp]; exact eS, by decide, by decide +kernel, fun v3 x6 y6 v30 v31 => ?_⟩
    have kk : (1 + k0) * (1 + k0) ≤ 60 * 60 := Int.mul_le_mul (by omega) (by omega) (by omega) (by decide)
    have great : ∃ g : Int, g ≤ 1000000 ∧ atI [V.int (3 * (1 + k0) * (1 + k0)), V.int (4 * (1 + k0) * (1 + k0)), V.int (999999 - v1), V.int (1000000 - v2)] v3 = some (.int g) := by
      have e3 : v3 = 0 ∨ v3 = 1 ∨ v3 = 2 ∨ v3 = 3 := by omega
      rcases e3 with rfl | rfl | rfl | rfl
      · exact ⟨_, by rw [Int.mul_assoc]; omega, rfl⟩
      · exact ⟨_, by rw [Int.mul_assoc]; omega, rfl⟩
      · exact ⟨_, by omega, rfl⟩
      · exact ⟨_, by omega, rfl⟩
    obtain ⟨g, hg, eg⟩ := great
    refine ⟨_, v3, rfl, SqL.of (by rw [upd_ne sp.symm, upd_same]), _, eg, told _ _ _ _ hg fun H6 sm6 => ?_⟩
    have e6 : H6 st = some (.lst [.int x6, .int y6]) := sm6 _ _ upd_same
    clear sm6
    refine ⟨g, rfl, hg, fun H7 sm7 => ?_⟩
    have e7 := sm7 _ _ e6
    try walk_at "rd"
    refine ⟨⟨by decide, by decide, by decide⟩, by decide, fun p2 n2 => ?_⟩
    have e8 : ∀ o, (upd H7 p2 o) st = some (.lst [.int x6, .int y6]) := fun o => by rw [upd_ne (ne_of_none e7 n2)]; exact e7
    have hT : ∀ l, SqT K (upd H7 p2 (.tup l)) p2 l := fun l => SqT.of upd_same
    refine ⟨⟨_, hT _⟩, LcT.w (xs := ([0, 1, 2, -1, -3, -4, -10 ^ Int.toNat 30] : List Int).map V.int) (fun i D zs H9 => zs = ((([0, 1, 2, -1, -3, -4, -10 ^ Int.toNat 30] : List Int).take i).map due).map V.int ∧ Same (upd H7 p2 (.tup (([0, 1, 2, -1, -3, -4, -10 ^ Int.toNat 30] : List Int).map V.int))) H9 ∧ H9 D = some (.lst zs) ∧ (upd H7 p2 (.tup (([0, 1, 2, -1, -3, -4, -10 ^ Int.toNat 30] : List Int).map V.int))) D = none)
      (fun D nD => ⟨rfl, same_upd nD, upd_same, nD⟩) ?_ ?_ ?_⟩
    · rintro D i zs H9 _ ⟨rfl, sm9, hD, nD⟩
      exact SqT.of (sm9 _ _ upd_same)
    · rintro D i v zs H9 hv ⟨rfl, sm9, hD, nD⟩ N hN
      rw [List.getElem?_map] at hv
      obtain ⟨n, hn, rfl⟩ := Option.map_eq_some_iff.mp hv
      have hi7 : i < 7 := (List.getElem?_eq_some_iff.mp hn).1
      have hle : n ≤ 1000000 := by
        have hm := List.mem_of_getElem? hn
        simp only [List.mem_cons, List.not_mem_nil, or_false] at hm
        have : (-10 ^ Int.toNat 30 : Int) ≤ 1000000 := by decide +kernel
        rcases hm with rfl | rfl | rfl | rfl | rfl | rfl | rfl <;> omega
      try walk_at "rd"
      refine told _ _ _ _ hle fun H10 sm10 => ?_
      refine ⟨_, sm10 _ _ hD, ?_, hN _ _ ⟨?_, same_at (sm9.trans sm10) nD, upd_same, nD⟩⟩
      · rw [List.length_map, List.length_map, List.length_take]
        exact small_size (by omega)
      · rw [List.take_add_one, hn]
        simp
    rintro D zs H9 nD ⟨rfl, sm9, hD, _⟩
    have e9 := sm9 _ _ (e8 _)
    try walk_at "rd"
    refine ⟨by decide, fun p3 n3 => ?_⟩
    have ez : (((([0, 1, 2, -1, -3, -4, -10 ^ Int.toNat 30] : List Int).take (([0, 1, 2, -1, -3, -4, -10 ^ Int.toNat 30] : List Int).map V.int).length).map due)) = [-1, 0, 0, 0, 0, 0, 0] := by
      show [due 0, due 1, due 2, due (-1), due (-3), due (-4), due (-10 ^ Int.toNat 30)] = _
      rw [due_0, due_1, due_2, due_neg (n := -1) (by decide), due_neg (n := -3) (by decide), due_neg (n := -4) (by decide), due_neg (n := -10 ^ Int.toNat 30) (by decide +kernel)]
    rw [ez] at hD
    refine ⟨.list (([-1, 0, 0, 0, 0, 0, 0] : List Int).map PyData.int), .list (([-1, 0, 0, 0, 0, 0, 0] : List Int).map PyData.int), .lst (SqL.of (by rw [upd_ne (ne_of_none hD n3)]; exact hD)) (dp_ints [-1, 0, 0, 0, 0, 0, 0]), .lst (SqL.of upd_same) (dp_ints [-1, 0, 0, 0, 0, 0, 0]), by decide +kernel, by decide +kernel, false, ?_, ?_⟩
    · decide +kernel
    rw [if_neg Bool.false_ne_true]
    have e10 : ∀ o, (upd H9 p3 o) st = some (.lst [.int x6, .int y6]) := fun o => by rw [upd_ne (ne_of_none e9 n3)]; exact e9
    have e10' := e10 (.lst [V.int (-1), V.int 0, V.int 0, V.int 0, V.int 0, V.int 0, V.int 0])
    generalize upd H9 p3 (.lst [V.int (-1), V.int 0, V.int 0, V.int 0, V.int 0, V.int 0, V.int 0]) = H11 at *
    refine ⟨⟨by decide, by decide, by decide⟩, by decide, fun p4 n4 => ?_⟩
    have e12 : ∀ o, (upd H11 p4 o) st = some (.lst [.int x6, .int y6]) := fun o => by rw [upd_ne (ne_of_none e10' n4)]; exact e10'
    refine ⟨⟨_, SqT.of upd_same⟩, LcT.w (xs := ([1000001, 1000003, 10 ^ Int.toNat 40] : List Int).map V.int) (fun i D zs H9 => zs = (List.replicate i ("large" : Str)).map V.str ∧ i ≤ 3 ∧ Same (upd H11 p4 (.tup (([1000001, 1000003, 10 ^ Int.toNat 40] : List Int).map V.int))) H9 ∧ H9 D = some (.lst zs) ∧ (upd H11 p4 (.tup (([1000001, 1000003, 10 ^ Int.toNat 40] : List Int).map V.int))) D = none)
      (fun D nD => ⟨rfl, by decide, same_upd nD, upd_same, nD⟩) ?_ ?_ ?_⟩
    · rintro D i zs H9 _ ⟨rfl, _, sm9, hD, nD⟩
      exact SqT.of (sm9 _ _ upd_same)
    · rintro D i v zs H9 hv ⟨rfl, hi, sm9, hD, nD⟩ N hN
      rw [List.getElem?_map] at hv
      obtain ⟨n, hn, rfl⟩ := Option.map_eq_some_iff.mp hv
      have hi3 : i < 3 := (List.getElem?_eq_some_iff.mp hn).1
      have hle : 1000000 < n := by
        have hm := List.mem_of_getElem? hn
        simp only [List.mem_cons, List.not_mem_nil, or_false] at hm
        have : (1000000 : Int) < 10 ^ Int.toNat 40 := by decide +kernel
        rcases hm with rfl | rfl | rfl <;> omega
      try walk_at "rd"
      refine ⟨.int n, rfl, .inr (.inl ⟨n, rfl, hle, fun H10 sm10 => ?_⟩)⟩
      refine ⟨_, sm10 _ _ hD, ?_, hN _ _ ⟨?_, hi3, same_at (sm9.trans sm10) nD, upd_same, nD⟩⟩
      · rw [List.length_map, List.length_replicate]
        exact small_size (by omega)
      · rw [List.replicate_succ', List.map_append]
        rfl
    rintro D2 zs H12 nD2 ⟨rfl, _, sm12, hD2, _⟩
    have e13 := sm12 _ _ (e12 _)
    try walk_at "rd"
    refine ⟨by decide, fun p5 n5 => ⟨_, upd_same, by decide, by decide, by decide, fun p6 n6 => ?_⟩⟩
    have h56 : p5 ≠ p6 := ne_of_none upd_same n6
    refine ⟨.list ((List.replicate 3 ("large" : Str)).map PyData.str), .list ((List.replicate 3 ("large" : Str)).map PyData.str), .lst (SqL.of (by rw [upd_ne (ne_of_none (same_upd n5 _ _ hD2) n6)]; exact same_upd n5 _ _ hD2)) (dp_strs (List.replicate 3 "large")), .lst (SqL.of upd_same) (dp_strs (List.replicate 3 "large")), by decide +kernel, by decide +kernel, false, ?_, ?_⟩
    · decide +kernel
    rw [if_neg Bool.false_ne_true]
    have e14 := same_upd n6 (o := .lst (List.replicate (Int.toNat 3) [V.str "large"]).flatten) _ _ (same_upd n5 (o := .lst [V.str "large"]) _ _ e13)
    generalize upd (upd H12 p5 (HO.lst [V.str "large"])) p6 (HO.lst (List.replicate (Int.toNat 3) [V.str "large"]).flatten) = H13 at *
    refine ⟨by decide, fun q1 m1 => ⟨by decide, fun q2 m2 => ⟨by decide, fun q3 m3 => ⟨by decide, fun q4 m4 => ?_⟩⟩⟩⟩
    have f1 := same_upd m2 (o := .lst [V.int 3]) _ _ (upd_same (H := H13) (a := q1) (o := .tup [V.int 3]))
    have f1' := same_upd m3 (o := .tup []) _ _ f1
    have f2 := same_upd m3 (o := .tup []) _ _ (upd_same (H := upd H13 q1 (.tup [V.int 3])) (a := q2) (o := .lst [V.int 3]))
    have f3 := upd_same (H := upd (upd H13 q1 (.tup [V.int 3])) q2 (.lst [V.int 3])) (a := q3) (o := .tup [])
    have s14 := same_upd m3 (o := .tup []) _ _ (same_upd m2 (o := .lst [V.int 3]) _ _ (same_upd m1 (o := .tup [V.int 3]) _ _ e14))
    have T := same_upd m4 (o := .lst [V.non, V.bl true, V.bl false, V.str "3", V.ref q1, V.ref q2, V.ref q3])
    have e15 := T _ _ s14
    have f4 := T _ _ f1'
    have f5 := T _ _ f2
    have f6 := T _ _ f3
    have f7 : (upd (upd (upd (upd H13 q1 (.tup [V.int 3])) q2 (.lst [V.int 3])) q3 (.tup [])) q4 (.lst [V.non, V.bl true, V.bl false, V.str "3", V.ref q1, V.ref q2, V.ref q3])) q4 = some (.lst [V.non, V.bl true, V.bl false, V.str "3", V.ref q1, V.ref q2, V.ref q3]) := upd_same
    generalize upd (upd (upd (upd H13 q1 (.tup [V.int 3])) q2 (.lst [V.int 3])) q3 (.tup [])) q4 (.lst [V.non, V.bl true, V.bl false, V.str "3", V.ref q1, V.ref q2, V.ref q3]) = H14 at *
    refine ⟨st, x6, y6, 7, rfl, e15, by decide, by decide +kernel, fun v4 x7 y7 v40 v41 => ?_⟩
    have no : ∀ {b : Addr} {o : HO}, H14 b = some o → o ≠ .lst [.int x6, .int y6] → (upd H14 st (.lst [.int x7, .int y7])) b = some o := fun {b o} e d => by
      rw [upd_ne (ne_of e e15 d)]
      exact e
    have pick : ∃ v T, atI [V.non, V.bl true, V.bl false, V.str "3", V.ref q1, V.ref q2, V.ref q3] v4 = some v ∧ TyX K (upd H14 st (.lst [.int x7, .int y7])) v (.type T) ∧ T ∈ kinds ∧ (T == "int") = false := by
      have c : v4 = 0 ∨ v4 = 1 ∨ v4 = 2 ∨ v4 = 3 ∨ v4 = 4 ∨ v4 = 5 ∨ v4 = 6 := by omega
      rcases c with rfl | rfl | rfl | rfl | rfl | rfl | rfl
      · exact ⟨_, "NoneType", rfl, .base .non, by decide, by decide⟩
      · exact ⟨_, "bool", rfl, .base (.bl true), by decide, by decide⟩
      · exact ⟨_, "bool", rfl, .base (.bl false), by decide, by decide⟩
      · exact ⟨_, "str", rfl, .base (.str "3"), by decide, by decide⟩
      · exact ⟨_, "tuple", rfl, .base (.tup (no f4 (by intro z; cases z))), by decide, by decide⟩
      · exact ⟨_, "list", rfl, .base (.lst (no f5 (by intro z; cases z))), by decide, by decide⟩
      · exact ⟨_, "tuple", rfl, .base (.tup (no f6 (by intro z; cases z))), by decide, by decide⟩
    obtain ⟨v, T, ev, ty, hT, hi⟩ := pick
    have hlong : (upd H14 st (.lst [.int x7, .int y7])) q4 = some (.lst [V.non, V.bl true, V.bl false, V.str "3", V.ref q1, V.ref q2, V.ref q3]) := no f7 (by intro z; cases z)
    refine ⟨_, v4, rfl, SqL.of hlong, v, ev, v, rfl, .inl ⟨T, ty, hT, hi, rfl, ?_⟩⟩
    rw [decide_eq_true rfl]
    exact q _
end

abbrev s_RI : Stmt := inClass (top 4) 0
theorem sc_RI : FnScope ["self", "reason"] ["self", "reason"] (defScope s_RI) := ⟨rfl, rfl, rfl, by decide +kernel, rfl, by decide +kernel, by decide +kernel⟩
theorem ri_fn {P : Program} {w : World} {K : PySem.W.Frag} {mg : Str → Option Value} {base : Heap} {f : Addr} {fd : FuncData} (F : Fun K "__init__" "Refused.__init__" s_RI f fd) : FnOk P w K mg base CX0 1 f fd ["self", "reason"] (spRI K) := by
  refine F.ok sc_RI (fun vs H Q E h => by obtain ⟨a, C, v, rfl, _⟩ := h; rfl) (fun cdv A outer s H vs Q E hr h => ?_)
  obtain ⟨a, C, v, rfl, ox, n, ha, q⟩ := h
  refine ⟨_, pss_one (ps_ost (pv 0) (pv 1)), ?_⟩
  exact ⟨_, rfl, _, rfl, a, C, rfl, ox, n, .inl ⟨ha, fun dx hd ne => q dx hd ne⟩⟩
theorem all_mk {l : PySem.W.OpenLaw} {w : World} {K : PySem.W.Frag} {h : Heap} {mg : Str → Option Value} {fa f_is_integer f_root f__counted_forms f_hurwitz f__weight f__law_no_word f__law_state f__law_take f__law_whole f__law_plain f__law_root f__law_all_reduced f__law_told f__law_due f_law CM CR fI NR : Addr} (X : K.In h) (G : h.Ns mainGlobals mg) (hfa : mg "law" = some (.ref fa))
    {od_is_integer an_is_integer od_root an_root od__counted_forms an__counted_forms od_hurwitz an_hurwitz od__weight an__weight od__law_no_word an__law_no_word od__law_state an__law_state od__law_take an__law_take od__law_whole an__law_whole od__law_plain an__law_plain od__law_root an__law_root od__law_all_reduced an__law_all_reduced od__law_told an__law_told od__law_due an__law_due od_law an_law od_I an_I dd_R : Option Addr} {sl_is_integer sl_root sl__counted_forms sl_hurwitz sl__weight sl__law_no_word sl__law_state sl__law_take sl__law_whole sl__law_plain sl__law_root sl__law_all_reduced sl__law_told sl__law_due sl_law sl_I : Array (Option Value)} {oc_is_integer kV_is_integer dc_is_integer pm_is_integer cd_is_integer ct_is_integer oc_root kV_root dc_root pm_root cd_root ct_root oc__counted_forms kV__counted_forms dc__counted_forms pm__counted_forms cd__counted_forms ct__counted_forms oc_hurwitz kV_hurwitz dc_hurwitz pm_hurwitz cd_hurwitz ct_hurwitz oc__weight kV__weight dc__weight pm__weight cd__weight ct__weight oc__law_no_word kV__law_no_word dc__law_no_word pm__law_no_word cd__law_no_word ct__law_no_word oc__law_state kV__law_state dc__law_state pm__law_state cd__law_state ct__law_state oc__law_take kV__law_take dc__law_take pm__law_take cd__law_take ct__law_take oc__law_whole kV__law_whole dc__law_whole pm__law_whole cd__law_whole ct__law_whole oc__law_plain kV__law_plain dc__law_plain pm__law_plain cd__law_plain ct__law_plain oc__law_root kV__law_root dc__law_root pm__law_root cd__law_root ct__law_root oc__law_all_reduced kV__law_all_reduced dc__law_all_reduced pm__law_all_reduced cd__law_all_reduced ct__law_all_reduced oc__law_told kV__law_told dc__law_told pm__law_told cd__law_told ct__law_told oc__law_due kV__law_due dc__law_due pm__law_due cd__law_due ct__law_due oc_law kV_law dc_law pm_law cd_law ct_law oc_I kV_I dc_I pm_I cd_I ct_I : Value} {t_HALVED_BITS t_LARGEST : Tok} {nm_R q_R : Str} {bs_R bm_R sub_R : List Value} {sn_R : List Str} {ab_R : Bool} {col_R : Option Bool} {m0_R m1_R m2_R m3_R m5_R : Option Value}
    (a_is_integer : PySem.W.nsIn K mainGlobals "is_integer" = some (some (.ref f_is_integer)))
    (l_is_integer : K.lookup f_is_integer = some ⟨oc_is_integer, od_is_integer, .func (PySem.W.fnOf "is_integer" "is_integer" (defArgs s_is_integer) (defBody s_is_integer) (defScope s_is_integer) .none kV_is_integer dc_is_integer pm_is_integer an_is_integer cd_is_integer ct_is_integer), sl_is_integer⟩)
    (c_is_integer : PySem.W.codeIn K cd_is_integer "is_integer" = true)
    (k_is_integer : PySem.W.keepIn K (.ref f_is_integer) = true)
    (a_root : PySem.W.nsIn K mainGlobals "root" = some (some (.ref f_root)))
    (l_root : K.lookup f_root = some ⟨oc_root, od_root, .func (PySem.W.fnOf "root" "root" (defArgs s_root) (defBody s_root) (defScope s_root) .none kV_root dc_root pm_root an_root cd_root ct_root), sl_root⟩)
    (c_root : PySem.W.codeIn K cd_root "root" = true)
    (k_root : PySem.W.keepIn K (.ref f_root) = true)
    (a__counted_forms : PySem.W.nsIn K mainGlobals "_counted_forms" = some (some (.ref f__counted_forms)))
    (l__counted_forms : K.lookup f__counted_forms = some ⟨oc__counted_forms, od__counted_forms, .func (PySem.W.fnOf "_counted_forms" "_counted_forms" (defArgs s__counted_forms) (defBody s__counted_forms) (defScope s__counted_forms) .none kV__counted_forms dc__counted_forms pm__counted_forms an__counted_forms cd__counted_forms ct__counted_forms), sl__counted_forms⟩)
    (c__counted_forms : PySem.W.codeIn K cd__counted_forms "_counted_forms" = true)
    (k__counted_forms : PySem.W.keepIn K (.ref f__counted_forms) = true)
    (a_hurwitz : PySem.W.nsIn K mainGlobals "hurwitz" = some (some (.ref f_hurwitz)))
    (l_hurwitz : K.lookup f_hurwitz = some ⟨oc_hurwitz, od_hurwitz, .func (PySem.W.fnOf "hurwitz" "hurwitz" (defArgs s_hurwitz) (defBody s_hurwitz) (defScope s_hurwitz) .none kV_hurwitz dc_hurwitz pm_hurwitz an_hurwitz cd_hurwitz ct_hurwitz), sl_hurwitz⟩)
    (c_hurwitz : PySem.W.codeIn K cd_hurwitz "hurwitz" = true)
    (k_hurwitz : PySem.W.keepIn K (.ref f_hurwitz) = true)
    (a__weight : PySem.W.nsIn K mainGlobals "_weight" = some (some (.ref f__weight)))
    (l__weight : K.lookup f__weight = some ⟨oc__weight, od__weight, .func (PySem.W.fnOf "_weight" "_weight" (defArgs s__weight) (defBody s__weight) (defScope s__weight) .none kV__weight dc__weight pm__weight an__weight cd__weight ct__weight), sl__weight⟩)
    (c__weight : PySem.W.codeIn K cd__weight "_weight" = true)
    (k__weight : PySem.W.keepIn K (.ref f__weight) = true)
    (a__law_no_word : PySem.W.nsIn K mainGlobals "_law_no_word" = some (some (.ref f__law_no_word)))
    (l__law_no_word : K.lookup f__law_no_word = some ⟨oc__law_no_word, od__law_no_word, .func (PySem.W.fnOf "_law_no_word" "_law_no_word" (defArgs s__law_no_word) (defBody s__law_no_word) (defScope s__law_no_word) .none kV__law_no_word dc__law_no_word pm__law_no_word an__law_no_word cd__law_no_word ct__law_no_word), sl__law_no_word⟩)
    (c__law_no_word : PySem.W.codeIn K cd__law_no_word "_law_no_word" = true)
    (k__law_no_word : PySem.W.keepIn K (.ref f__law_no_word) = true)
    (a__law_state : PySem.W.nsIn K mainGlobals "_law_state" = some (some (.ref f__law_state)))
    (l__law_state : K.lookup f__law_state = some ⟨oc__law_state, od__law_state, .func (PySem.W.fnOf "_law_state" "_law_state" (defArgs s__law_state) (defBody s__law_state) (defScope s__law_state) .none kV__law_state dc__law_state pm__law_state an__law_state cd__law_state ct__law_state), sl__law_state⟩)
    (c__law_state : PySem.W.codeIn K cd__law_state "_law_state" = true)
    (k__law_state : PySem.W.keepIn K (.ref f__law_state) = true)
    (a__law_take : PySem.W.nsIn K mainGlobals "_law_take" = some (some (.ref f__law_take)))
    (l__law_take : K.lookup f__law_take = some ⟨oc__law_take, od__law_take, .func (PySem.W.fnOf "_law_take" "_law_take" (defArgs s__law_take) (defBody s__law_take) (defScope s__law_take) .none kV__law_take dc__law_take pm__law_take an__law_take cd__law_take ct__law_take), sl__law_take⟩)
    (c__law_take : PySem.W.codeIn K cd__law_take "_law_take" = true)
    (k__law_take : PySem.W.keepIn K (.ref f__law_take) = true)
    (a__law_whole : PySem.W.nsIn K mainGlobals "_law_whole" = some (some (.ref f__law_whole)))
    (l__law_whole : K.lookup f__law_whole = some ⟨oc__law_whole, od__law_whole, .func (PySem.W.fnOf "_law_whole" "_law_whole" (defArgs s__law_whole) (defBody s__law_whole) (defScope s__law_whole) .none kV__law_whole dc__law_whole pm__law_whole an__law_whole cd__law_whole ct__law_whole), sl__law_whole⟩)
    (c__law_whole : PySem.W.codeIn K cd__law_whole "_law_whole" = true)
    (k__law_whole : PySem.W.keepIn K (.ref f__law_whole) = true)
    (a__law_plain : PySem.W.nsIn K mainGlobals "_law_plain" = some (some (.ref f__law_plain)))
    (l__law_plain : K.lookup f__law_plain = some ⟨oc__law_plain, od__law_plain, .func (PySem.W.fnOf "_law_plain" "_law_plain" (defArgs s__law_plain) (defBody s__law_plain) (defScope s__law_plain) .none kV__law_plain dc__law_plain pm__law_plain an__law_plain cd__law_plain ct__law_plain), sl__law_plain⟩)
    (c__law_plain : PySem.W.codeIn K cd__law_plain "_law_plain" = true)
    (k__law_plain : PySem.W.keepIn K (.ref f__law_plain) = true)
    (a__law_root : PySem.W.nsIn K mainGlobals "_law_root" = some (some (.ref f__law_root)))
    (l__law_root : K.lookup f__law_root = some ⟨oc__law_root, od__law_root, .func (PySem.W.fnOf "_law_root" "_law_root" (defArgs s__law_root) (defBody s__law_root) (defScope s__law_root) .none kV__law_root dc__law_root pm__law_root an__law_root cd__law_root ct__law_root), sl__law_root⟩)
    (c__law_root : PySem.W.codeIn K cd__law_root "_law_root" = true)
    (k__law_root : PySem.W.keepIn K (.ref f__law_root) = true)
    (a__law_all_reduced : PySem.W.nsIn K mainGlobals "_law_all_reduced" = some (some (.ref f__law_all_reduced)))
    (l__law_all_reduced : K.lookup f__law_all_reduced = some ⟨oc__law_all_reduced, od__law_all_reduced, .func (PySem.W.fnOf "_law_all_reduced" "_law_all_reduced" (defArgs s__law_all_reduced) (defBody s__law_all_reduced) (defScope s__law_all_reduced) .none kV__law_all_reduced dc__law_all_reduced pm__law_all_reduced an__law_all_reduced cd__law_all_reduced ct__law_all_reduced), sl__law_all_reduced⟩)
    (c__law_all_reduced : PySem.W.codeIn K cd__law_all_reduced "_law_all_reduced" = true)
    (k__law_all_reduced : PySem.W.keepIn K (.ref f__law_all_reduced) = true)
    (a__law_told : PySem.W.nsIn K mainGlobals "_law_told" = some (some (.ref f__law_told)))
    (l__law_told : K.lookup f__law_told = some ⟨oc__law_told, od__law_told, .func (PySem.W.fnOf "_law_told" "_law_told" (defArgs s__law_told) (defBody s__law_told) (defScope s__law_told) .none kV__law_told dc__law_told pm__law_told an__law_told cd__law_told ct__law_told), sl__law_told⟩)
    (c__law_told : PySem.W.codeIn K cd__law_told "_law_told" = true)
    (k__law_told : PySem.W.keepIn K (.ref f__law_told) = true)
    (a__law_due : PySem.W.nsIn K mainGlobals "_law_due" = some (some (.ref f__law_due)))
    (l__law_due : K.lookup f__law_due = some ⟨oc__law_due, od__law_due, .func (PySem.W.fnOf "_law_due" "_law_due" (defArgs s__law_due) (defBody s__law_due) (defScope s__law_due) .none kV__law_due dc__law_due pm__law_due an__law_due cd__law_due ct__law_due), sl__law_due⟩)
    (c__law_due : PySem.W.codeIn K cd__law_due "_law_due" = true)
    (k__law_due : PySem.W.keepIn K (.ref f__law_due) = true)
    (a_law : PySem.W.nsIn K mainGlobals "law" = some (some (.ref f_law)))
    (l_law : K.lookup f_law = some ⟨oc_law, od_law, .func (PySem.W.fnOf "law" "law" (defArgs s_law) (defBody s_law) (defScope s_law) .none kV_law dc_law pm_law an_law cd_law ct_law), sl_law⟩)
    (c_law : PySem.W.codeIn K cd_law "law" = true)
    (k_law : PySem.W.keepIn K (.ref f_law) = true)
    (z_abs : PySem.W.nsIn K mainGlobals "abs" = some none)
    (z_int : PySem.W.nsIn K mainGlobals "int" = some none)
    (z_bool : PySem.W.nsIn K mainGlobals "bool" = some none)
    (z_str : PySem.W.nsIn K mainGlobals "str" = some none)
    (z_tuple : PySem.W.nsIn K mainGlobals "tuple" = some none)
    (z_max : PySem.W.nsIn K mainGlobals "max" = some none)
    (z_sum : PySem.W.nsIn K mainGlobals "sum" = some none)
    (z_range : PySem.W.nsIn K mainGlobals "range" = some none)
    (z_sorted : PySem.W.nsIn K mainGlobals "sorted" = some none)
    (z_isinstance : PySem.W.nsIn K mainGlobals "isinstance" = some none)
    (z_isqrt : PySem.W.nsIn K mainGlobals "isqrt" = some (some (.builtin "math.isqrt")))
    (v_HALVED_BITS : PySem.W.nsIn K mainGlobals "HALVED_BITS" = some (some (.int 32 t_HALVED_BITS)))
    (v_LARGEST : PySem.W.nsIn K mainGlobals "LARGEST" = some (some (.int 1000000 t_LARGEST)))
    (aM : PySem.W.nsIn K mainGlobals "Malformed" = some (some (.ref CM)))
    (xM : PySem.W.excIn K CM veB "ValueError.__new__" = true)
    (kM : PySem.W.keepIn K (.ref CM) = true)
    (bM : PySem.W.subIn K (.ref CM) (.type "BaseException") = some true)
    (tM : PySem.W.typeIn K (.ref CM) = some (.type "type"))
    (iM : PySem.W.isClsIn K CM = true)
    (mM : PySem.W.subIn K (.ref CM) (.ref CM) = some true)
    (aR : PySem.W.nsIn K mainGlobals "Refused" = some (some (.ref CR)))
    (xR : K.lookup CR = some (excClassObj nm_R q_R CR NR bs_R bm_R true sn_R sub_R ab_R col_R dd_R m0_R m1_R m2_R m3_R m5_R "ValueError.__new__"))
    (vR : PySem.HandSPX.refsVE bm_R = true)
    (sR : PySem.W.findIn K (.ref CR) "__setattr__" = some (some (.builtin "object.__setattr__")))
    (gR : PySem.W.findIn K (.ref CR) "__getattribute__" = some (some (.builtin "BaseException.__getattribute__")))
    (hR : PySem.W.findIn K (.ref CR) "__getattr__" = some none)
    (nR : PySem.W.findIn K (.ref CR) "reason" = some none)
    (iR : PySem.W.findIn K (.ref CR) "__init__" = some (some (.ref fI)))
    (tI : PySem.W.typeIn K (.ref fI) = some (.type "function"))
    (lI : K.lookup fI = some ⟨oc_I, od_I, .func (PySem.W.fnOf "__init__" "Refused.__init__" (defArgs s_RI) (defBody s_RI) (defScope s_RI) .none kV_I dc_I pm_I an_I cd_I ct_I), sl_I⟩)
    (cI : PySem.W.codeIn K cd_I "Refused.__init__" = true)
    (kI : PySem.W.keepIn K (.ref fI) = true)
    (kR : PySem.W.keepIn K (.ref CR) = true)
    (bR : PySem.W.subIn K (.ref CR) (.type "BaseException") = some true)
    (tR : PySem.W.typeIn K (.ref CR) = some (.type "type"))
    (dR : PySem.W.hasDictIn K CR = true)
    (cR : PySem.W.isClsIn K CR = true)
    (rm : PySem.W.subIn K (.ref CR) (.ref CM) = some false)
    (rr : PySem.W.subIn K (.ref CR) (.ref CR) = some true) :
    ∃ fd : FuncData, (∀ (s : Shared) (v : Value), BindsTo s fd ⟨[v], []⟩ [("script", v)]) ∧ ∀ base : Heap, K.In base → base.Ns mainGlobals mg → FnOk l.prog w K mg base CX0 5 fa fd ["script"] (spLaw K) := by
  have e := hfa.symm.trans (PySem.W.mg_of X G a_law)
  cases e
  have B : Bl mg := { abs := PySem.W.mg_none_of X G z_abs, int := PySem.W.mg_none_of X G z_int, bool := PySem.W.mg_none_of X G z_bool, str := PySem.W.mg_none_of X G z_str, tuple := PySem.W.mg_none_of X G z_tuple, max := PySem.W.mg_none_of X G z_max, sum := PySem.W.mg_none_of X G z_sum, range := PySem.W.mg_none_of X G z_range, sorted := PySem.W.mg_none_of X G z_sorted, isinstance := PySem.W.mg_none_of X G z_isinstance, isqrt := PySem.W.mg_of X G z_isqrt, c_HALVED_BITS := ⟨_, PySem.W.mg_of X G v_HALVED_BITS⟩, c_LARGEST := ⟨_, PySem.W.mg_of X G v_LARGEST⟩ }
  have d_is_integer : Dn K mg "is_integer" s_is_integer ["value"] := dn_mk X G a_is_integer l_is_integer c_is_integer k_is_integer fun _ _ _ _ _ _ us hl => match us, hl with | [_], _ => rfl
  have d_root : Dn K mg "root" s_root ["n", "k"] := dn_mk X G a_root l_root c_root k_root fun _ _ _ _ _ _ us hl => match us, hl with | [_, _], _ => rfl
  have d__counted_forms : Dn K mg "_counted_forms" s__counted_forms ["D"] := dn_mk X G a__counted_forms l__counted_forms c__counted_forms k__counted_forms fun _ _ _ _ _ _ us hl => match us, hl with | [_], _ => rfl
  have d_hurwitz : Dn K mg "hurwitz" s_hurwitz ["n"] := dn_mk X G a_hurwitz l_hurwitz c_hurwitz k_hurwitz fun _ _ _ _ _ _ us hl => match us, hl with | [_], _ => rfl
  have d__weight : Dn K mg "_weight" s__weight ["f"] := dn_mk X G a__weight l__weight c__weight k__weight fun _ _ _ _ _ _ us hl => match us, hl with | [_], _ => rfl
  have d__law_no_word : Dn K mg "_law_no_word" s__law_no_word ["value"] := dn_mk X G a__law_no_word l__law_no_word c__law_no_word k__law_no_word fun _ _ _ _ _ _ us hl => match us, hl with | [_], _ => rfl
  have d__law_state : Dn K mg "_law_state" s__law_state ["script"] := dn_mk X G a__law_state l__law_state c__law_state k__law_state fun _ _ _ _ _ _ us hl => match us, hl with | [_], _ => rfl
  have d__law_take : Dn K mg "_law_take" s__law_take ["state", "m"] := dn_mk X G a__law_take l__law_take c__law_take k__law_take fun _ _ _ _ _ _ us hl => match us, hl with | [_, _], _ => rfl
  have d__law_whole : Dn K mg "_law_whole" s__law_whole ["value"] := dn_mk X G a__law_whole l__law_whole c__law_whole k__law_whole fun _ _ _ _ _ _ us hl => match us, hl with | [_], _ => rfl
  have d__law_plain : Dn K mg "_law_plain" s__law_plain ["value"] := dn_mk X G a__law_plain l__law_plain c__law_plain k__law_plain fun _ _ _ _ _ _ us hl => match us, hl with | [_], _ => rfl
  have d__law_root : Dn K mg "_law_root" s__law_root ["n"] := dn_mk X G a__law_root l__law_root c__law_root k__law_root fun _ _ _ _ _ _ us hl => match us, hl with | [_], _ => rfl
  have d__law_all_reduced : Dn K mg "_law_all_reduced" s__law_all_reduced ["n"] := dn_mk X G a__law_all_reduced l__law_all_reduced c__law_all_reduced k__law_all_reduced fun _ _ _ _ _ _ us hl => match us, hl with | [_], _ => rfl
  have d__law_told : Dn K mg "_law_told" s__law_told ["n"] := dn_mk X G a__law_told l__law_told c__law_told k__law_told fun _ _ _ _ _ _ us hl => match us, hl with | [_], _ => rfl
  have d__law_due : Dn K mg "_law_due" s__law_due ["n"] := dn_mk X G a__law_due l__law_due c__law_due k__law_due fun _ _ _ _ _ _ us hl => match us, hl with | [_], _ => rfl
  have d_law : Dn K mg "law" s_law ["script"] := dn_mk X G a_law l_law c_law k_law fun _ _ _ _ _ _ us hl => match us, hl with | [_], _ => rfl
  have hM : PySem.W.exmOne K (.ref CM) (.ref CM) = some true := exm_b bM iM tM mM
  have mr : PySem.W.exmOne K (.ref CR) (.ref CM) = some false := exm_b bM iM tM rm
  have hR2 : PySem.W.exmOne K (.ref CR) (.ref CR) = some true := exm_b bR cR tR rr
  refine ⟨PySem.W.fnOf "law" "law" (defArgs s_law) (defBody s_law) (defScope s_law) .none kV_law dc_law pm_law an_law cd_law ct_law, fun s v => .of_eq rfl, fun base _ _ => ?_⟩
  have FI := fun_mk (st := s_RI) lI cI kI
  have bI := FI.binds (ps := ["self", "reason"]) fun _ _ _ _ _ _ us hl => match us, hl with | [_, _], _ => rfl
  have e_E : ErrI l.prog w K mg base CM CR := ⟨⟨PySem.W.mg_of X G aM, xM, kM, bM, tM, hM⟩, fI, _, ⟨PySem.W.mg_of X G aR, ⟨⟨nm_R, q_R, NR, bs_R, bm_R, sn_R, sub_R, ab_R, col_R, dd_R, m0_R, m1_R, m2_R, m3_R, m5_R, xR, vR⟩, sR, bR, tR, kR⟩, iR, tI, nR, ⟨gR, hR, bR, dR⟩, mr, hR2⟩,
    ri_fn FI, bI⟩
  have r_take := cal_take (P := l.prog) (w := w) (base := base) d__law_take B
  have r_state := cal_state (P := l.prog) (w := w) (base := base) d__law_state B
  have r_int := cal_is_integer (P := l.prog) (w := w) (base := base) d_is_integer B
  have r_whole := cal_whole (P := l.prog) (w := w) (base := base) d__law_whole B
  have r_root := cal_root (P := l.prog) (w := w) (base := base) d_root B
  have r_lroot := cal_law_root (P := l.prog) (w := w) (base := base) d__law_root B
  have r_cnt := cal_counted (P := l.prog) (w := w) (base := base) d__counted_forms B r_root
  have r_red := cal_reduced (P := l.prog) (w := w) (base := base) d__law_all_reduced B r_lroot
  have r_due := cal_due (P := l.prog) (w := w) (base := base) d__law_due B r_red
  have r_wt := cal_weight (P := l.prog) (w := w) (base := base) d__weight B
  have r_hur := cal_hurwitz (P := l.prog) (w := w) (base := base) d_hurwitz B r_int r_cnt r_wt e_E
  have r_plain := cal_plain (P := l.prog) (w := w) (base := base) d__law_plain B r_whole
  have r_nw := cal_no_word (P := l.prog) (w := w) (base := base) d__law_no_word B
  have r_told := cal_told (P := l.prog) (w := w) (base := base) d__law_told B r_hur r_plain r_nw e_E
  exact ok_law (P := l.prog) (w := w) (base := base) (fun_mk (st := s_law) l_law c_law k_law) B r_state r_take r_told r_due
theorem walk {l : PySem.W.OpenLaw} {q : Program} {loose : List Str} {XP : (Str → Option Value) → Heap → Prop} {YP : World → Heap → Prop} {d : DefRec} {K : Params → PySem.W.Frag} (hn : l.most = some 63) (hdf : d.params.defaults = []) (hY : ∀ (w : World) (h : Heap), YP w h → (K w.params).In h)
    (F : ∀ (w : World) (mg : Str → Option Value) (fa : Addr) (h : Heap), (K w.params).In h → h.Ns mainGlobals mg → mg d.name = some (.ref fa) → ∃ fd : FuncData, (∀ (s : Shared) (u : Value), BindsTo s fd ⟨[u], []⟩ [("script", u)]) ∧ ∀ base : Heap, (K w.params).In base → base.Ns mainGlobals mg → FnOk l.prog w (K w.params) mg base CX0 5 fa fd ["script"] (spLaw (K w.params))) :
    PySem.W.WalkO q loose XP YP l.row.toRowW d [] (fun f vs => PySem.call f vs) :=
  L2.walk_of (n := 63) (k := 5) (x := "script") (CX := fun _ => CX0) (sp := fun w => spLaw (K w.params)) hn (by decide) hdf ⟨rfl, by decide, by decide⟩ hY F (fun _ _ a ns hl _ hS => ⟨a, ns, rfl, hS, hl, fun _ => rfl⟩) fun _ _ _ _ _ z => z

end L19
open PySem PySem.W PyProof.Rows
set_option maxRecDepth 100000 in
set_option maxHeartbeats 0 in
theorem PySem.Challenge.cw_classledger_k19_whole_numbers_of_hurwitz_holds : PySem.Challenge.rw_classledger_k19_whole_numbers_of_hurwitz.Holds := by
  w_on; o_law; k_head; (case hw => w_witness2)
  k_fill
  refine L19.walk (l := PySem.Challenge.rw_classledger_k19_whole_numbers_of_hurwitz) rfl rfl (fun w h Y => PySem.W.kIn_of Y) ?F
  case F =>
    intro w mg fa h KX G hmg
    refine' L19.all_mk KX G hmg ?a_is_integer ?l_is_integer ?c_is_integer ?k_is_integer ?a_root ?l_root ?c_root ?k_root ?a__counted_forms ?l__counted_forms ?c__counted_forms ?k__counted_forms ?a_hurwitz ?l_hurwitz ?c_hurwitz ?k_hurwitz ?a__weight ?l__weight ?c__weight ?k__weight ?a__law_no_word ?l__law_no_word ?c__law_no_word ?k__law_no_word ?a__law_state ?l__law_state ?c__law_state ?k__law_state ?a__law_take ?l__law_take ?c__law_take ?k__law_take ?a__law_whole ?l__law_whole ?c__law_whole ?k__law_whole ?a__law_plain ?l__law_plain ?c__law_plain ?k__law_plain ?a__law_root ?l__law_root ?c__law_root ?k__law_root ?a__law_all_reduced ?l__law_all_reduced ?c__law_all_reduced ?k__law_all_reduced ?a__law_told ?l__law_told ?c__law_told ?k__law_told ?a__law_due ?l__law_due ?c__law_due ?k__law_due ?a_law ?l_law ?c_law ?k_law ?z_abs ?z_int ?z_bool ?z_str ?z_tuple ?z_max ?z_sum ?z_range ?z_sorted ?z_isinstance ?z_isqrt ?v_HALVED_BITS ?v_LARGEST ?aM ?xM ?kM ?bM ?tM ?iM ?mM ?aR ?xR ?vR ?sR ?gR ?hR ?nR ?iR ?tI ?lI ?cI ?kI ?kR ?bR ?tR ?dR ?cR ?rm ?rr
    (case a_is_integer => k_is); (case l_is_integer => k_is); (case c_is_integer => k_is); (case k_is_integer => k_is)
    (case a_root => k_is); (case l_root => k_is); (case c_root => k_is); (case k_root => k_is)
    (case a__counted_forms => k_is); (case l__counted_forms => k_is); (case c__counted_forms => k_is); (case k__counted_forms => k_is)
    (case a_hurwitz => k_is); (case l_hurwitz => k_is); (case c_hurwitz => k_is); (case k_hurwitz => k_is)
    (case a__weight => k_is); (case l__weight => k_is); (case c__weight => k_is); (case k__weight => k_is)
    (case a__law_no_word => k_is); (case l__law_no_word => k_is); (case c__law_no_word => k_is); (case k__law_no_word => k_is)
    (case a__law_state => k_is); (case l__law_state => k_is); (case c__law_state => k_is); (case k__law_state => k_is)
    (case a__law_take => k_is); (case l__law_take => k_is); (case c__law_take => k_is); (case k__law_take => k_is)
    (case a__law_whole => k_is); (case l__law_whole => k_is); (case c__law_whole => k_is); (case k__law_whole => k_is)
    (case a__law_plain => k_is); (case l__law_plain => k_is); (case c__law_plain => k_is); (case k__law_plain => k_is)
    (case a__law_root => k_is); (case l__law_root => k_is); (case c__law_root => k_is); (case k__law_root => k_is)
    (case a__law_all_reduced => k_is); (case l__law_all_reduced => k_is); (case c__law_all_reduced => k_is); (case k__law_all_reduced => k_is)
    (case a__law_told => k_is); (case l__law_told => k_is); (case c__law_told => k_is); (case k__law_told => k_is)
    (case a__law_due => k_is); (case l__law_due => k_is); (case c__law_due => k_is); (case k__law_due => k_is)
    (case a_law => k_is); (case l_law => k_is); (case c_law => k_is); (case k_law => k_is)
    (case z_abs => k_is); (case z_int => k_is); (case z_bool => k_is); (case z_str => k_is)
    (case z_tuple => k_is); (case z_max => k_is); (case z_sum => k_is); (case z_range => k_is)
    (case z_sorted => k_is); (case z_isinstance => k_is); (case z_isqrt => k_is); (case v_HALVED_BITS => k_is)
    (case v_LARGEST => k_is); (case aM => k_is); (case xM => k_exc); (case kM => k_is)
    (case bM => k_is); (case tM => k_is); (case iM => k_is); (case mM => k_is)
    (case aR => k_is); (case xR => k_is); (case vR => first | rfl | decide +kernel); (case sR => k_is)
    (case gR => k_is); (case hR => k_is); (case nR => k_is); (case iR => k_is)
    (case tI => k_is); (case lI => k_is); (case cI => k_is); (case kI => k_is)
    (case kR => k_is); (case bR => k_is); (case tR => k_is); (case dR => k_is)
    (case cR => k_is); (case rm => k_is); (case rr => k_is)
