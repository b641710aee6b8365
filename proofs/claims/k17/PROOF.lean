import PyProof.Rows.All
import Wide.All
import OpenK.AllK
import Wide.FinOn
import HandS.ForMost
import HandS.Exc
import HandS.ExcOwn
import HandS.ExcInit
import HandS.TryOnly
import HandS.TryMany
import HandS.WordsExc
import HandS.Gcd
import HandS.Wide
import HandS.WideMore
import HandS.WideBits
import HandS.IsInst
import HandS.Style
import HandS.Flow
import HandS.SortRule
import HandS.SortInts
import HandS.Conv
import HandS.ExcField
import PySem.Challenge.RW_classledger_k17_whole_reduced_forms_list
set_option Elab.async false
set_option linter.all false
set_option maxRecDepth 100000
set_option maxHeartbeats 4000000
namespace CB
open PySem PySem.Spec PyProof.Rows L2
/-! ### operators of any size -/
section
variable {X : Cx}
theorem op_mulI : OpR X (binaryOp .Mult) (rI IntMulOk fun i j => .int (i * j)) := opI fun _ _ _ _ _ _ _ hc q => mul_int q hc
theorem iop_mulI : OpR X (inplaceOp .Mult) (rI IntMulOk fun i j => .int (i * j)) := opI fun _ _ _ _ _ _ _ hc q => imul_int q hc
/-- math.isqrt of an int below 2 ^ 13000 -/
def rIsqrt : List V → Hp → VK → Prop := fun vs H Q => ∃ a : Int, vs = [.int a] ∧ 0 ≤ a ∧ a < 2 ^ 13000 ∧ Q (.int ((Float64.isqrt a.toNat : Nat) : Int)) H
theorem log_lt {n k : Nat} (h : n < 2 ^ (k + 1)) : n.log2 ≤ k := PySem.W.mg_log h
theorem cr_isqrt : CallR X (.builtin "math.isqrt") rIsqrt := by
  intro pins s σ H vs us Q I r h
  obtain ⟨a, rfl, h0, h1, q⟩ := h
  obtain ⟨u, rfl, ru⟩ := vals1 r
  obtain ⟨t, rfl⟩ := ru
  have hl : a.toNat.log2 ≤ 12999 := log_lt (by
    have e : ((2 : Int) ^ 13000) = ((2 ^ 13000 : Nat) : Int) := by rw [Int.natCast_pow]; rfl
    rw [e] at h1
    show a.toNat < 2 ^ 13000
    omega)
  exact call_function_meets PySem.W.MGF.kind_isqrt PySem.W.MGF.plain_isqrt PySem.W.MGF.entry_isqrt (PySem.W.MGF.args_isqrt _) (PySem.W.mg_run_isqrt a t (by omega) (by omega) (by omega)).meets
    ⟨.int _, H, I.tok _, ⟨_, rfl⟩, q⟩
theorem isqrt_spec (n : Nat) : Float64.isqrt n * Float64.isqrt n ≤ n ∧ n < (Float64.isqrt n + 1) * (Float64.isqrt n + 1) := PySem.Float64.isqrt_spec n
/-! ### a < b < c < d -/
def tChain3 (r r' r'' : R2) (ta tb tc td : TE) : TE := fun σ H Q => ta σ H fun x H1 => tb σ H1 fun y H2 => r x y H2 fun z H3 => ∃ k, z = .bl k ∧
  (if k = true then tc σ H3 fun y' H4 => r' y y' H4 fun z' H5 => ∃ k', z' = .bl k' ∧ (if k' = true then td σ H5 fun w' H6 => r'' y' w' H6 Q else Q (.bl false) H5) else Q (.bl false) H3)
variable {a b c d : Expr} {ta tb tc td : TE} {pos : Pos}
theorem pt_chain3 {o1 o2 o3 : CmpOp} {r r' r'' : R2} (ho : OpR X (compareOp o1) r) (ho' : OpR X (compareOp o2) r') (ho'' : OpR X (compareOp o3) r'') (ha : PE X a ta) (hb : PE X b tb) (hc : PE X c tc) (hd : PE X d td)
    (hm : lastMarks [o1, o2, o3] [b, c, d] = false := by with_unfolding_all rfl) : PT X (.Compare a [o1, o2, o3] [b, c, d] pos) (tTest (tChain3 r r' r'' ta tb tc td)) := by
  refine ⟨fun pins s σ H Q I h => ?_⟩
  refine isTrue_chain (thn (ha.run pins s σ H _ I h) fun v s1 ⟨x, H1, I1, r1, q1⟩ => test_link (thn (hb.run pins s1 σ H1 _ I1 q1) fun u s2 ⟨y, H2, I2, r2, q2⟩ =>
    thn (ho pins s2 σ H2 x y v u _ I2 r1 r2 q2) fun d1 s3 ⟨z, H3, I3, r3, k, e, q3⟩ => ?_)) hm
  subst e
  cases r3
  refine wpAny_truthy_bool ?_
  cases k with
  | false =>
    obtain ⟨k', e', q'⟩ := q3
    cases e'
    exact ite_ff ⟨H3, I3, q'⟩
  | true =>
    refine ite_tt (test_link (thn (hc.run pins s3 σ H3 _ I3 q3) fun u' s4 ⟨y', H4, I4, r4, q4⟩ => thn (ho' pins s4 σ H4 y y' u u' _ I4 r2 r4 q4) fun d2 s5 ⟨z2, H5, I5, r5, k2, e2, q5⟩ => ?_))
    subst e2
    cases r5
    refine wpAny_truthy_bool ?_
    cases k2 with
    | false =>
      obtain ⟨k', e', q'⟩ := q5
      cases e'
      exact ite_ff ⟨H5, I5, q'⟩
    | true =>
      refine ite_tt (test_last (thn (hd.run pins s5 σ H5 _ I5 q5) fun w' s6 ⟨z3, H6, I6, r6, q6⟩ => thn (ho'' pins s6 σ H6 y' z3 u' w' _ I6 r4 r6 q6) fun d3 s7 ⟨z4, H7, I7, r7, k4, e4, q7⟩ => ?_))
      subst e4
      cases r7
      exact wpAny_truthy_bool ⟨H7, I7, q7⟩
end
/-! ### a def that a caller calls by its name -/
structure Cal (P : Program) (w : World) (K : PySem.W.Frag) (mg : Str → Option Value) (base : Heap) (x : Str) (k : Nat) (ps : List Str) (sp : Sp) : Prop where
  ok : ∃ f fd, FnOk P w K mg base CX0 k f fd ps sp ∧ mg x = some (.ref f) ∧ PySem.W.keepIn K (.ref f) = true ∧ Binds K fd ps []
section
variable {X : Cx} {k : Nat} {ps : List Str} {sp : Sp} {x : Str} {p pos : Pos} {e : Expr} {es : List Expr} {t : TA}
theorem pe_cal (C : Cal X.prog X.w X.K X.mg X.base x k ps sp) (hr : Room k X.A) (hg : Gl X x) (ha : PA X (e :: es) t) (hdb : (x == ("__debug__" : Str)) = false := by decide)
    (he : starEach (e :: es) X.env = (false, eval e X.env) :: starEach es X.env := by rfl) (hpl : (backTo pos (starEach es X.env)).any (·.1) = false := by rfl) : PE X (.Call (.Name x p) (e :: es) [] pos) (tCall sp [] E0 t) := by
  obtain ⟨f, fd, F, hm, hk, hb⟩ := C.ok
  exact pe_call F hr hg hm hk hb .nil pass0 ha hdb he hpl
end
/-! ### readings, unfolded -/
section
variable {σ : L2.St} {H : Hp} {Q : VK} {QT : Bool → Hp → Prop} {QA : List V → Hp → Prop} {D : Ends} {i j : Nat} {v x y : V} {ta tb tc td : TE} {tA tB' : TT} {t u : TS} {tr : TA} {K : PySem.W.Frag}
theorem rd_var : tVar i σ H Q = ∃ v, σ[i]? = some (some v) ∧ Q v H := rfl
theorem rd_C : tC v σ H Q = Q v H := rfl
theorem rd_op {r : R2} : tOp r ta tb σ H Q = ta σ H fun x H1 => tb σ H1 fun y H2 => r x y H2 Q := rfl
theorem rd_un {r : V → Hp → VK → Prop} : tUn r ta σ H Q = ta σ H fun x H1 => r x H1 Q := rfl
theorem rd_I {C : Int → Int → Prop} {g : Int → Int → V} : rI C g x y H Q = ∃ i j, x = .int i ∧ y = .int j ∧ C i j ∧ Q (g i j) H := rfl
theorem rd_I0 {g : Int → Int → V} : rI0 g x y H Q = ∃ i j, x = .int i ∧ y = .int j ∧ Q (g i j) H := rfl
theorem rd_U {g : Int → V} : rU g x H Q = ∃ i, x = .int i ∧ Q (g i) H := rfl
theorem rd_Eq : rEq x y H Q = (scal x y = true ∧ Q (.bl (decide (x = y))) H) := rfl
theorem rd_Ne : rNe x y H Q = (scal x y = true ∧ Q (.bl (!decide (x = y))) H) := rfl
theorem rd_test : tTest ta σ H QT = ta σ H fun x H' => ∃ k, x = .bl k ∧ QT k H' := rfl
theorem rd_B : L2.tB ta σ H QT = ta σ H fun x H' => ∃ k, x = .bl k ∧ QT k H' := rfl
theorem rd_and {s t : TT} : tAnd s t σ H QT = s σ H fun c H1 => if c = true then t σ H1 QT else QT false H1 := rfl
theorem rd_or {s t : TT} : tOr s t σ H QT = s σ H fun c H1 => if c = true then QT true H1 else t σ H1 QT := rfl
theorem rd_not {s : TT} : tNot s σ H QT = s σ H fun c H1 => QT (!c) H1 := rfl
theorem rd_andV : tAndV ta tb σ H Q = ta σ H fun x H1 => ∃ c, x = .bl c ∧ if c = true then tb σ H1 Q else Q (.bl false) H1 := rfl
theorem rd_orV : tOrV ta tb σ H Q = ta σ H fun x H1 => ∃ c, x = .bl c ∧ if c = true then Q (.bl true) H1 else tb σ H1 Q := rfl
theorem rd_notV : tNotV ta σ H Q = ta σ H fun x H1 => ∃ c, x = .bl c ∧ Q (.bl (!c)) H1 := rfl
theorem rd_if {c : TT} : tIf c ta tb σ H Q = c σ H fun b H1 => if b = true then ta σ H1 Q else tb σ H1 Q := rfl
theorem rd_chain {r r' : R2} : tChain r r' ta tb tc σ H Q = ta σ H fun x H1 => tb σ H1 fun y H2 => r x y H2 fun z H3 => ∃ k, z = .bl k ∧ (if k = true then tc σ H3 fun w' H4 => r' y w' H4 Q else Q (.bl false) H3) := rfl
theorem rd_chain3 {r r' r'' : R2} : tChain3 r r' r'' ta tb tc td σ H Q = ta σ H fun x H1 => tb σ H1 fun y H2 => r x y H2 fun z H3 => ∃ k, z = .bl k ∧
  (if k = true then tc σ H3 fun y' H4 => r' y y' H4 fun z' H5 => ∃ k', z' = .bl k' ∧ (if k' = true then td σ H5 fun w' H6 => r'' y' w' H6 Q else Q (.bl false) H5) else Q (.bl false) H3) := rfl
theorem rd_next : tNext D σ H = D.nx σ H := rfl
theorem rd_seq : tSeq t u D σ H = t { D with nx := u D } σ H := rfl
theorem rd_drop : tDrop ta D σ H = ta σ H fun _ H1 => D.nx σ H1 := rfl
theorem rd_ret : tRet ta D σ H = ta σ H D.rt := rfl
theorem rd_retN : tRetN D σ H = D.rt .non H := rfl
theorem rd_break : tBreak D σ H = D.bk σ H := rfl
theorem rd_cont : tCont D σ H = D.ct σ H := rfl
theorem rd_ifS {c : TT} : tIfS c t u D σ H = c σ H fun b H1 => if b = true then t D σ H1 else u D σ H1 := rfl
theorem rd_asg {g : TG} : tAsg ta g D σ H = ta σ H fun x H1 => g x σ H1 D.nx := rfl
theorem rd_name {QS : L2.St → Hp → Prop} : gName i v σ H QS = QS (σ.set i (some v)) H := rfl
theorem rd_gsub {to ti : TE} {s : TSet} {QS : L2.St → Hp → Prop} : gSub to ti s v σ H QS = to σ H fun o H1 => ti σ H1 fun i H2 => s o i v H2 fun H3 => QS σ H3 := rfl
theorem rd_gtup {n : Nat} {g : TGs} {QS : L2.St → Hp → Prop} : gTup K n g v σ H QS = ∃ a xs, v = .ref a ∧ SqT K H a xs ∧ xs.length = n ∧ g xs σ H QS := rfl
theorem rd_gcons {g : TG} {gs : TGs} {vs : List V} {QS : L2.St → Hp → Prop} : gCons g gs vs σ H QS = ∃ v r, vs = v :: r ∧ g v σ H fun σ' H' => gs r σ' H' QS := rfl
theorem rd_gnil {vs : List V} {QS : L2.St → Hp → Prop} : gNil vs σ H QS = (vs = [] ∧ QS σ H) := rfl
theorem rd_par : tPar i j tr D σ H = tr σ H fun vs H1 => ∃ v w, vs = [v, w] ∧ D.nx ((σ.set i (some v)).set j (some w)) H1 := rfl
theorem rd_aug {te : TE} {ti : TIp} : tAug i te ti D σ H = ∃ x, σ[i]? = some (some x) ∧ te σ H fun y H1 => ti x y H1 fun z H2 => D.nx (σ.set i (some z)) H2 := rfl
theorem rd_ipI {f : Int → Int → Int} : ipI f x y H Q = ∃ i j, x = .int i ∧ y = .int j ∧ Q (.int (f i j)) H := rfl
theorem rd_nil : tNil σ H QA = QA [] H := rfl
theorem rd_cons : tCons ta tr σ H QA = ta σ H fun x H1 => tr σ H1 fun xs H2 => QA (x :: xs) H2 := rfl
theorem rd_tup : tTup tr σ H Q = tr σ H fun xs H1 => xs.length ≤ sizeLine ∧ ∀ p, H1 p = none → Q (.ref p) (upd H1 p (.tup xs)) := rfl
theorem rd_lst : tLst tr σ H Q = tr σ H fun xs H1 => xs.length ≤ sizeLine ∧ ∀ p, H1 p = none → Q (.ref p) (upd H1 p (.lst xs)) := rfl
theorem rd_CB {r : List V → Hp → VK → Prop} : tCB r tr σ H Q = tr σ H fun vs H1 => r vs H1 Q := rfl
theorem rd_call {sp : Sp} {dvs : List V} {E : XK} : tCall sp dvs E tr σ H Q = tr σ H fun vs H1 => sp (vs ++ dvs) H1 Q E := rfl
theorem rd_callS {sp : Sp} {E : L2.St → XK} : tCallS sp E tr σ H Q = tr σ H fun vs H1 => sp vs H1 Q (E σ) := rfl
theorem rd_ixL : rIxL K x y H Q = ∃ p xs i v, x = .ref p ∧ y = .int i ∧ SqL K H p xs ∧ atI xs i = some v ∧ Q v H := rfl
theorem rd_ixT : rIxT K x y H Q = ∃ p xs i v, x = .ref p ∧ y = .int i ∧ SqT K H p xs ∧ atI xs i = some v ∧ Q v H := rfl
theorem rd_isqrt {vs : List V} : rIsqrt vs H Q = ∃ a : Int, vs = [.int a] ∧ 0 ≤ a ∧ a < 2 ^ 13000 ∧ Q (.int ((Float64.isqrt a.toNat : Nat) : Int)) H := rfl
theorem rd_sum {vs : List V} : rSum K vs H Q = ∃ (a : Addr) (ns : List Int), vs = [V.ref a] ∧ SqL K H a (ns.map V.int) ∧ Q (.int ns.sum) H := rfl
end

/-! ### a def of the text: it stands, its name, its parameters -/
structure Dn (K : PySem.W.Frag) (mg : Str → Option Value) (x : Str) (st : Stmt) (ps : List Str) : Prop where
  ok : ∃ f fd, Fun K x x st f fd ∧ mg x = some (.ref f) ∧ Binds K fd ps []
section
variable {P : Program} {w : World} {K : PySem.W.Frag} {mg : Str → Option Value} {base : Heap}
theorem Dn.cal {x : Str} {st : Stmt} {N ps : List Str} {k : Nat} {sp : Sp} (D : Dn K mg x st ps) (S : FnScope N ps (defScope st)) (len : ∀ vs H Q E, sp vs H Q E → vs.length = ps.length)
    (hbody : ∀ (f : Addr) (cdv : Value) (A : Around) (outer : List Env) (s : Shared) (H : Hp) (vs : List V) (Q : VK) (E : XK), Room k (A.deeper (envOfC x (defScope st) s.heap.objs.size f cdv)) → sp vs H Q E →
      ∃ t, PSs (cxOf CX0 P w K mg base N x (defScope st) f cdv A outer s H E).nox (defBody st) t ∧ t { nx := fun _ H' => Q .non H', rt := Q } (start N vs) H) : Cal P w K mg base x (k + 1) ps sp := by
  obtain ⟨f, fd, F, hm, hb⟩ := D.ok
  exact ⟨f, fd, F.ok S len fun cdv A outer s H vs Q E hr h => hbody f cdv A outer s H vs Q E hr h, hm, F.kp, hb⟩
end
/-- a weaker wish -/
theorem same_upd {H : Hp} {p : Addr} {o : HO} (h : H p = none) : Same H (upd H p o) := fun b x e => by
  rw [upd_ne (ne_of_none e h)]
  exact e
theorem ex_int {p : Int → Prop} {i : Int} : (∃ j, V.int i = V.int j ∧ p j) = p i := by simp
theorem ex_bl {p : Bool → Prop} {i : Bool} : (∃ j, V.bl i = V.bl j ∧ p j) = p i := by simp
theorem ex_ref {p : Addr → Prop} {i : Addr} : (∃ j, V.ref i = V.ref j ∧ p j) = p i := by simp
theorem ex_str {p : Str → Prop} {i : Str} : (∃ j, V.str i = V.str j ∧ p j) = p i := by simp
theorem ex_some {p : V → Prop} {x : V} : (∃ v, some (some x) = some (some v) ∧ p v) = p x := by simp
theorem ex_2i {p : Int → Int → Prop} {i j : Int} : (∃ a b, V.int i = V.int a ∧ V.int j = V.int b ∧ p a b) = p i j := by simp
theorem ex_l1 {p : Int → Prop} {i : Int} : (∃ j, [V.int i] = [V.int j] ∧ p j) = p i := by simp
theorem ex_l2 {p : Int → Int → Prop} {i j : Int} : (∃ a b, [V.int i, V.int j] = [V.int a, V.int b] ∧ p a b) = p i j := propext ⟨fun ⟨_, _, e, h⟩ => by cases e; exact h, fun h => ⟨_, _, rfl, h⟩⟩
theorem ex_v2 {p : V → V → Prop} {i j : V} : (∃ a b, [i, j] = [a, b] ∧ p a b) = p i j := propext ⟨fun ⟨_, _, e, h⟩ => by cases e; exact h, fun h => ⟨_, _, rfl, h⟩⟩
theorem int1_eq {p : Int → Prop} {q : Bool → Prop} {i : Int} : ((∃ j, [V.int i] = [V.int j] ∧ p j) ∨ ∃ k, [V.int i] = [V.bl k] ∧ q k) = p i := by simp
theorem scal_int {i j : Int} : (scal (V.int i) (V.int j) = true) = True := by simp [scal]
theorem scal_str {i j : Str} : (scal (V.str i) (V.str j) = true) = True := by simp [scal]
theorem dec_ii {i j : Int} : decide (V.int i = V.int j) = decide (i = j) := by simp
theorem ite_dec {p : Prop} [Decidable p] {A B : Prop} : (if decide p = true then A else B) = (if p then A else B) := by simp
theorem ite_ndec {p : Prop} [Decidable p] {A B : Prop} : (if (!decide p) = true then A else B) = (if p then B else A) := by
  by_cases h : p <;> simp [h]
section
variable {H : Hp} {Q : VK} {x y v : V}
theorem rd_setL {R : Hp → Prop} : rSetL x y v H R = ∃ p xs k j, x = .ref p ∧ y = .int k ∧ H p = some (.lst xs) ∧ ixN xs.length k = some j ∧ R (upd H p (.lst (xs.set j v))) := rfl
theorem rd_append {K : PySem.W.Frag} {to : TE} {t : TA} {σ : L2.St} : tBM K "list" rAppend to t σ H Q = to σ H fun x H1 => tyV K "list" x H1 ∧ t σ H1 fun xs H2 => ∃ l ys y, x = .ref l ∧ xs = [y] ∧ H2 l = some (.lst ys) ∧ ys.length < sizeLine ∧ Q .non (upd H2 l (.lst (ys ++ [y]))) := rfl
theorem K_nox {X : Cx} : X.nox.K = X.K := rfl
theorem K_cxOf {CX : CXT} {P : Program} {w : World} {K : PySem.W.Frag} {mg : Str → Option Value} {base : Heap} {N : List Str} {qual : Str} {scope : Scope} {f : Addr} {cd : Value} {A : Around} {outer : List Env} {s : Shared} {H : Hp} {E : XK} :
  (cxOf CX P w K mg base N qual scope f cd A outer s H E).K = K := rfl
end
/-- int * int with a small side -/
theorem mulL {i j : Int} (h : -(2 ^ 64) < i ∧ i < 2 ^ 64) : IntMulOk i j := CMul.ok (.inl h)
theorem mulR {i j : Int} (h : -(2 ^ 64) < j ∧ j < 2 ^ 64) : IntMulOk i j := CMul.ok (.inr h)
theorem tyL {K : PySem.W.Frag} {l : Addr} {xs : List V} {H : Hp} (h : H l = some (.lst xs)) : tyV K "list" (.ref l) H := .inl ⟨rfl, _, SqL.of h⟩
/-! ### loops, by a word: the reading stops at ForL .. -/
def ForJ (J : It) (g : TG) (tb : TS) (D : Ends) (σ : L2.St) (H1 : Hp) : Prop := ∃ W : Nat → Nat → L2.St → Hp → Prop, (∃ m, W 0 m σ H1) ∧ ∀ i m σ H, W i m σ H →
  (J.stop i H ∧ D.nx σ H) ∨ (J.go i H ∧ ∃ N : L2.St → Hp → Prop, (∀ σ' H', N σ' H' → ∃ m', m' < m ∧ W (i + 1) m' σ' H') ∧ ∀ x H', J.yld i H x H' → g x σ H' fun σ2 H2 => tb { D with nx := N, ct := N, bk := D.nx } σ2 H2)
def ForL (K : PySem.W.Frag) (a : Addr) := ForJ (Itl K a)
def ForT (K : PySem.W.Frag) (a : Addr) := ForJ (Itt K a)
def ForR (lo : Int) (n : Nat) := ForJ (Itr lo n)
def ForC (lo c : Int) (n : Nat) := ForJ (Itc lo c n)
section
variable {K : PySem.W.Frag} {a : Addr} {xs : List V} {g : TG} {tb : TS} {D : Ends} {σ : L2.St} {H : Hp} {te : TE} {ta : TA}
theorem rd_forL : tFor (iList K te) g tb D σ H = te σ H fun x H1 => ∃ a, x = .ref a ∧ (∃ xs, SqL K H1 a xs) ∧ ForL K a g tb D σ H1 := rfl
theorem rd_forT : tFor (iTup K te) g tb D σ H = te σ H fun x H1 => ∃ a, x = .ref a ∧ (∃ xs, SqT K H1 a xs) ∧ ForT K a g tb D σ H1 := rfl
theorem rd_forR1 : tFor (iRng1 ta) g tb D σ H = ta σ H fun vs H1 => ∃ j : Int, vs = [.int j] ∧ -(2 ^ 62) ≤ j ∧ j < 2 ^ 62 ∧ ForR 0 j.toNat g tb D σ H1 := rfl
theorem rd_forR2 : tFor (iRng2 ta) g tb D σ H = ta σ H fun vs H1 => ∃ i j : Int, vs = [.int i, .int j] ∧ (-(2 ^ 62) ≤ i ∧ i < 2 ^ 62 ∧ -(2 ^ 62) ≤ j ∧ j < 2 ^ 62) ∧ ForR i (j - i).toNat g tb D σ H1 := rfl
theorem rd_forR3 : tFor (iRng3 ta) g tb D σ H = ta σ H fun vs H1 => ∃ (i j c : Int) (n : Nat), vs = [.int i, .int j, .int c] ∧ RgC i j c n ∧ ForC i c n g tb D σ H1 := rfl
theorem ForL.mk (Pv : Nat → L2.St → Hp → Prop) (h0 : Pv 0 σ H) (hl : ∀ i σ H, i ≤ xs.length → Pv i σ H → SqL K H a xs)
    (hs : ∀ i x σ H, xs[i]? = some x → Pv i σ H → g x σ H fun σ2 H2 => tb { D with nx := Pv (i + 1), ct := Pv (i + 1), bk := D.nx } σ2 H2) (hd : ∀ σ H, Pv xs.length σ H → D.nx σ H) : ForL K a g tb D σ H := for_list Pv h0 hl hs hd
theorem ForT.mk (Pv : Nat → L2.St → Hp → Prop) (h0 : Pv 0 σ H) (hl : ∀ i σ H, i ≤ xs.length → Pv i σ H → SqT K H a xs)
    (hs : ∀ i x σ H, xs[i]? = some x → Pv i σ H → g x σ H fun σ2 H2 => tb { D with nx := Pv (i + 1), ct := Pv (i + 1), bk := D.nx } σ2 H2) (hd : ∀ σ H, Pv xs.length σ H → D.nx σ H) : ForT K a g tb D σ H := for_tup Pv h0 hl hs hd
theorem ForR.mk {lo : Int} {n : Nat} (Pv : Nat → L2.St → Hp → Prop) (h0 : Pv 0 σ H)
    (hs : ∀ i σ H, i < n → Pv i σ H → g (.int (lo + i)) σ H fun σ2 H2 => tb { D with nx := Pv (i + 1), ct := Pv (i + 1), bk := D.nx } σ2 H2) (hd : ∀ σ H, Pv n σ H → D.nx σ H) : ForR lo n g tb D σ H := for_range Pv h0 hs hd
theorem ForC.mk {lo c : Int} {n : Nat} (Pv : Nat → L2.St → Hp → Prop) (h0 : Pv 0 σ H)
    (hs : ∀ i σ H, i < n → Pv i σ H → g (.int (lo + (i : Nat) * c)) σ H fun σ2 H2 => tb { D with nx := Pv (i + 1), ct := Pv (i + 1), bk := D.nx } σ2 H2) (hd : ∀ σ H, Pv n σ H → D.nx σ H) : ForC lo c n g tb D σ H := for_rangeC Pv h0 hs hd
/-- while, the test's answer told (it lays nothing) -/
theorem while_mk {c : TT} (Pv : L2.St → Hp → Prop) (μ : L2.St → Hp → Nat) (h0 : Pv σ H)
    (hs : ∀ σ H, Pv σ H → ∃ b : Bool, (∀ Q : Bool → Hp → Prop, Q b H → c σ H Q) ∧ (b = true → tb { D with nx := fun σ' H' => Pv σ' H' ∧ μ σ' H' < μ σ H, ct := fun σ' H' => Pv σ' H' ∧ μ σ' H' < μ σ H, bk := D.nx } σ H) ∧ (b = false → D.nx σ H)) : tWhile c tb D σ H := by
  refine ⟨fun m σ H => m = μ σ H ∧ Pv σ H, ⟨_, rfl, h0⟩, ?_⟩
  rintro m σ H ⟨rfl, p⟩
  obtain ⟨b, hc, h1, h2⟩ := hs σ H p
  refine hc _ ?_
  cases b with
  | true => rw [if_pos rfl]; exact ⟨_, fun σ' H' ⟨p', l⟩ => ⟨_, l, rfl, p'⟩, h1 rfl⟩
  | false => rw [if_neg Bool.false_ne_true]; exact h2 rfl
end
/-! ### comprehensions -/
def LcJ (J : It) (g : TG) (tt : TT) (te : TE) (vs : List Nat) (σ : L2.St) (H1 : Hp) (Q : VK) : Prop := ∀ D, H1 D = none → ∃ W : Nat → Nat → Hp → Prop, (∃ m, W 0 m (upd H1 D (.lst []))) ∧ ∀ i m H, W i m H →
  (J.stop i H ∧ Q (.ref D) H) ∨ (J.go i H ∧ ∃ Nx : Hp → Prop, (∀ H', Nx H' → ∃ m', m' < m ∧ W (i + 1) m' H') ∧ ∀ x H', J.yld i H x H' → g x (wipe σ vs) H' fun σ2 H2 => wipe σ2 vs = wipe σ vs ∧ tt σ2 H2 fun b H3 =>
    if b = true then te σ2 H3 fun y H4 => ∃ acc, H4 D = some (.lst acc) ∧ acc.length < sizeLine ∧ Nx (upd H4 D (.lst (acc ++ [y]))) else Nx H3)
def LcL (K : PySem.W.Frag) (a : Addr) := LcJ (Itl K a)
def LcT (K : PySem.W.Frag) (a : Addr) := LcJ (Itt K a)
def LcR (lo : Int) (n : Nat) := LcJ (Itr lo n)
section
variable {K : PySem.W.Frag} {a : Addr} {xs : List V} {g : TG} {tt : TT} {te tl : TE} {ta : TA} {vs : List Nat} {σ : L2.St} {H : Hp} {Q : VK}
theorem rd_lcL : tLc (iList K tl) g tt te vs σ H Q = tl σ H fun x H1 => ∃ a, x = .ref a ∧ (∃ xs, SqL K H1 a xs) ∧ LcL K a g tt te vs σ H1 Q := rfl
theorem rd_lcT : tLc (iTup K tl) g tt te vs σ H Q = tl σ H fun x H1 => ∃ a, x = .ref a ∧ (∃ xs, SqT K H1 a xs) ∧ LcT K a g tt te vs σ H1 Q := rfl
theorem rd_lcR1 : tLc (iRng1 ta) g tt te vs σ H Q = ta σ H fun us H1 => ∃ j : Int, us = [.int j] ∧ -(2 ^ 62) ≤ j ∧ j < 2 ^ 62 ∧ LcR 0 j.toNat g tt te vs σ H1 Q := rfl
theorem rd_lcR2 : tLc (iRng2 ta) g tt te vs σ H Q = ta σ H fun us H1 => ∃ i j : Int, us = [.int i, .int j] ∧ (-(2 ^ 62) ≤ i ∧ i < 2 ^ 62 ∧ -(2 ^ 62) ≤ j ∧ j < 2 ^ 62) ∧ LcR i (j - i).toNat g tt te vs σ H1 Q := rfl
/-- the word of a comprehension at D: what is made so far, the heap -/
theorem LcL.mk (Pv : Nat → Addr → Hp → Prop) (h0 : ∀ D, H D = none → Pv 0 D (upd H D (.lst []))) (hl : ∀ D i H, i ≤ xs.length → Pv i D H → SqL K H a xs)
    (hs : ∀ D i x H, xs[i]? = some x → Pv i D H → g x (wipe σ vs) H fun σ2 H2 => wipe σ2 vs = wipe σ vs ∧ tt σ2 H2 fun b H3 =>
      if b = true then te σ2 H3 fun y H4 => ∃ acc, H4 D = some (.lst acc) ∧ acc.length < sizeLine ∧ Pv (i + 1) D (upd H4 D (.lst (acc ++ [y]))) else Pv (i + 1) D H3) (hd : ∀ D H', H D = none → Pv xs.length D H' → Q (.ref D) H') : LcL K a g tt te vs σ H Q :=
  fun D hD => lc_list (Qd := fun H' => Q (.ref D) H') (fun i H => Pv i D H) (h0 D hD) (hl D) (hs D) (fun H' p => hd D H' hD p)
theorem LcT.mk (Pv : Nat → Addr → Hp → Prop) (h0 : ∀ D, H D = none → Pv 0 D (upd H D (.lst []))) (hl : ∀ D i H, i ≤ xs.length → Pv i D H → SqT K H a xs)
    (hs : ∀ D i x H, xs[i]? = some x → Pv i D H → g x (wipe σ vs) H fun σ2 H2 => wipe σ2 vs = wipe σ vs ∧ tt σ2 H2 fun b H3 =>
      if b = true then te σ2 H3 fun y H4 => ∃ acc, H4 D = some (.lst acc) ∧ acc.length < sizeLine ∧ Pv (i + 1) D (upd H4 D (.lst (acc ++ [y]))) else Pv (i + 1) D H3) (hd : ∀ D H', H D = none → Pv xs.length D H' → Q (.ref D) H') : LcT K a g tt te vs σ H Q :=
  fun D hD => lc_tup (Qd := fun H' => Q (.ref D) H') (fun i H => Pv i D H) (h0 D hD) (hl D) (hs D) (fun H' p => hd D H' hD p)
theorem LcR.mk {lo : Int} {n : Nat} (Pv : Nat → Addr → Hp → Prop) (h0 : ∀ D, H D = none → Pv 0 D (upd H D (.lst [])))
    (hs : ∀ D i H, i < n → Pv i D H → g (.int (lo + i)) (wipe σ vs) H fun σ2 H2 => wipe σ2 vs = wipe σ vs ∧ tt σ2 H2 fun b H3 =>
      if b = true then te σ2 H3 fun y H4 => ∃ acc, H4 D = some (.lst acc) ∧ acc.length < sizeLine ∧ Pv (i + 1) D (upd H4 D (.lst (acc ++ [y]))) else Pv (i + 1) D H3) (hd : ∀ D H', H D = none → Pv n D H' → Q (.ref D) H') : LcR lo n g tt te vs σ H Q :=
  fun D hD => lc_range (Qd := fun H' => Q (.ref D) H') (fun i H => Pv i D H) (h0 D hD) (hs D) (fun H' p => hd D H' hD p)
theorem rd_yes {QT : Bool → Hp → Prop} : tYes σ H QT = QT true H := rfl
theorem rd_sl {r : V → Option Int → Option Int → Hp → VK → Prop} {tlo thi : L2.St → Hp → (Option Int → Hp → Prop) → Prop} : tSl r te tlo thi σ H Q = te σ H fun x H1 => tlo σ H1 fun l H2 => thi σ H2 fun u H3 => r x l u H3 Q := rfl
theorem rd_noPart {QO : Option Int → Hp → Prop} : tNoPart σ H QO = QO none H := rfl
theorem rd_part {QO : Option Int → Hp → Prop} : tPart te σ H QO = te σ H fun x H1 => ∃ i, x = .int i ∧ QO (some i) H1 := rfl
theorem rd_slL {x : V} {lo hi : Option Int} : rSlL K x lo hi H Q = ∃ a xs, x = .ref a ∧ SqL K H a xs ∧ ∀ p, H p = none → Q (.ref p) (upd H p (.lst (cutV xs lo hi))) := rfl
end
/-! ### isinstance of a built-in class -/
theorem isi_mk {K : PySem.W.Frag} {x : V} {T t : String} {b : Bool} {H : Hp} {Q : VK} (ty : TyX K H x (.type t)) (e : kitB t T = some b) (q : Q (.bl b) H) : rIsi K [x, .ty T] H Q := ⟨x, .ty T, _, _, b, rfl, .ty T, ty, kit_ty e, q⟩
/-! ### the same with the next turn's word a letter (simp doesn't read it) -/
section
variable {K : PySem.W.Frag} {a : Addr} {xs : List V} {g : TG} {tb : TS} {D : Ends} {σ : L2.St} {H : Hp} {te : TE} {ta : TA} {tt : TT} {vs : List Nat} {Q : VK}
theorem while_w {c : TT} (Pw : L2.St → Hp → Prop) (μ : L2.St → Hp → Nat) (h0 : Pw σ H)
    (hs : ∀ σ H, Pw σ H → ∀ N : L2.St → Hp → Prop, (∀ σ' H', Pw σ' H' → μ σ' H' < μ σ H → N σ' H') →
      ∃ b : Bool, (∀ Q : Bool → Hp → Prop, Q b H → c σ H Q) ∧ (b = true → tb { D with nx := N, ct := N, bk := D.nx } σ H) ∧ (b = false → D.nx σ H)) : tWhile c tb D σ H :=
  while_mk Pw μ h0 fun σ H p => hs σ H p _ fun _ _ h1 h2 => ⟨h1, h2⟩
theorem ForL.w (Pw : Nat → L2.St → Hp → Prop) (h0 : Pw 0 σ H) (hl : ∀ i σ H, i ≤ xs.length → Pw i σ H → SqL K H a xs)
    (hs : ∀ i x σ H, xs[i]? = some x → Pw i σ H → ∀ N : L2.St → Hp → Prop, (∀ σ' H', Pw (i + 1) σ' H' → N σ' H') → g x σ H fun σ2 H2 => tb { D with nx := N, ct := N, bk := D.nx } σ2 H2) (hd : ∀ σ H, Pw xs.length σ H → D.nx σ H) : ForL K a g tb D σ H :=
  ForL.mk Pw h0 hl (fun i x σ H e p => hs i x σ H e p _ fun _ _ h => h) hd
theorem ForT.w (Pw : Nat → L2.St → Hp → Prop) (h0 : Pw 0 σ H) (hl : ∀ i σ H, i ≤ xs.length → Pw i σ H → SqT K H a xs)
    (hs : ∀ i x σ H, xs[i]? = some x → Pw i σ H → ∀ N : L2.St → Hp → Prop, (∀ σ' H', Pw (i + 1) σ' H' → N σ' H') → g x σ H fun σ2 H2 => tb { D with nx := N, ct := N, bk := D.nx } σ2 H2) (hd : ∀ σ H, Pw xs.length σ H → D.nx σ H) : ForT K a g tb D σ H :=
  ForT.mk Pw h0 hl (fun i x σ H e p => hs i x σ H e p _ fun _ _ h => h) hd
theorem ForR.w {lo : Int} {n : Nat} (Pw : Nat → L2.St → Hp → Prop) (h0 : Pw 0 σ H)
    (hs : ∀ i σ H, i < n → Pw i σ H → ∀ N : L2.St → Hp → Prop, (∀ σ' H', Pw (i + 1) σ' H' → N σ' H') → g (.int (lo + i)) σ H fun σ2 H2 => tb { D with nx := N, ct := N, bk := D.nx } σ2 H2) (hd : ∀ σ H, Pw n σ H → D.nx σ H) : ForR lo n g tb D σ H :=
  ForR.mk Pw h0 (fun i σ H e p => hs i σ H e p _ fun _ _ h => h) hd
theorem ForC.w {lo c : Int} {n : Nat} (Pw : Nat → L2.St → Hp → Prop) (h0 : Pw 0 σ H)
    (hs : ∀ i σ H, i < n → Pw i σ H → ∀ N : L2.St → Hp → Prop, (∀ σ' H', Pw (i + 1) σ' H' → N σ' H') → g (.int (lo + (i : Nat) * c)) σ H fun σ2 H2 => tb { D with nx := N, ct := N, bk := D.nx } σ2 H2) (hd : ∀ σ H, Pw n σ H → D.nx σ H) : ForC lo c n g tb D σ H :=
  ForC.mk Pw h0 (fun i σ H e p => hs i σ H e p _ fun _ _ h => h) hd
/-- a comprehension: Pw turn D made heap: the list at D holds made -/
theorem LcL.w (Pw : Nat → Addr → List V → Hp → Prop) (h0 : ∀ D, H D = none → Pw 0 D [] (upd H D (.lst []))) (hl : ∀ D i ys H, i ≤ xs.length → Pw i D ys H → SqL K H a xs)
    (hs : ∀ D i x ys H, xs[i]? = some x → Pw i D ys H → ∀ N : Hp → Prop, (∀ ys' H', Pw (i + 1) D ys' H' → N H') → g x (wipe σ vs) H fun σ2 H2 => wipe σ2 vs = wipe σ vs ∧ tt σ2 H2 fun b H3 =>
      if b = true then te σ2 H3 fun y H4 => ∃ acc, H4 D = some (.lst acc) ∧ acc.length < sizeLine ∧ N (upd H4 D (.lst (acc ++ [y]))) else N H3) (hd : ∀ D ys H', H D = none → Pw xs.length D ys H' → Q (.ref D) H') : LcL K a g tt te vs σ H Q :=
  LcL.mk (xs := xs) (fun i D H => ∃ ys, Pw i D ys H) (fun D n => ⟨[], h0 D n⟩) (fun D i H hi ⟨ys, p⟩ => hl D i ys H hi p) (fun D i x H e ⟨ys, p⟩ => hs D i x ys H e p _ fun ys' H' h => ⟨ys', h⟩) (fun D H' n ⟨ys, p⟩ => hd D ys H' n p)
theorem LcT.w (Pw : Nat → Addr → List V → Hp → Prop) (h0 : ∀ D, H D = none → Pw 0 D [] (upd H D (.lst []))) (hl : ∀ D i ys H, i ≤ xs.length → Pw i D ys H → SqT K H a xs)
    (hs : ∀ D i x ys H, xs[i]? = some x → Pw i D ys H → ∀ N : Hp → Prop, (∀ ys' H', Pw (i + 1) D ys' H' → N H') → g x (wipe σ vs) H fun σ2 H2 => wipe σ2 vs = wipe σ vs ∧ tt σ2 H2 fun b H3 =>
      if b = true then te σ2 H3 fun y H4 => ∃ acc, H4 D = some (.lst acc) ∧ acc.length < sizeLine ∧ N (upd H4 D (.lst (acc ++ [y]))) else N H3) (hd : ∀ D ys H', H D = none → Pw xs.length D ys H' → Q (.ref D) H') : LcT K a g tt te vs σ H Q :=
  LcT.mk (xs := xs) (fun i D H => ∃ ys, Pw i D ys H) (fun D n => ⟨[], h0 D n⟩) (fun D i H hi ⟨ys, p⟩ => hl D i ys H hi p) (fun D i x H e ⟨ys, p⟩ => hs D i x ys H e p _ fun ys' H' h => ⟨ys', h⟩) (fun D H' n ⟨ys, p⟩ => hd D ys H' n p)
theorem LcR.w {lo : Int} {n : Nat} (Pw : Nat → Addr → List V → Hp → Prop) (h0 : ∀ D, H D = none → Pw 0 D [] (upd H D (.lst [])))
    (hs : ∀ D i ys H, i < n → Pw i D ys H → ∀ N : Hp → Prop, (∀ ys' H', Pw (i + 1) D ys' H' → N H') → g (.int (lo + i)) (wipe σ vs) H fun σ2 H2 => wipe σ2 vs = wipe σ vs ∧ tt σ2 H2 fun b H3 =>
      if b = true then te σ2 H3 fun y H4 => ∃ acc, H4 D = some (.lst acc) ∧ acc.length < sizeLine ∧ N (upd H4 D (.lst (acc ++ [y]))) else N H3) (hd : ∀ D ys H', H D = none → Pw n D ys H' → Q (.ref D) H') : LcR lo n g tt te vs σ H Q :=
  LcR.mk (fun i D H => ∃ ys, Pw i D ys H) (fun D n => ⟨[], h0 D n⟩) (fun D i H e ⟨ys, p⟩ => hs D i ys H e p _ fun ys' H' h => ⟨ys', h⟩) (fun D H' n ⟨ys, p⟩ => hd D ys H' n p)
end
theorem rd_max2 {xs : List V} {H : Hp} {Q : VK} : (fun (xs : List V) (H : Hp) (Q : VK) => ∃ i j : Int, xs = [.int i, .int j] ∧ Q (.int (if j > i then j else i)) H) xs H Q = ∃ i j : Int, xs = [.int i, .int j] ∧ Q (.int (if j > i then j else i)) H := rfl
theorem rd_wipe0 {σ : L2.St} : wipe σ [] = σ := rfl
theorem rd_wipe1 {σ : L2.St} {v : Nat} {vs : List Nat} : wipe σ (v :: vs) = (wipe σ vs).set v none := rfl
theorem rd_eqD {K : PySem.W.Frag} {x y : V} {H : Hp} {Q : VK} : rEqD K x y H Q = ∃ d e, Dp K H x d ∧ Dp K H y e ∧ SeqAt.shaped d = true ∧ SeqAt.shaped e = true ∧ Q (.bl (PyData.eqv d e)) H := rfl
theorem rd_neD {K : PySem.W.Frag} {x y : V} {H : Hp} {Q : VK} : rNeD K x y H Q = ∃ d e, Dp K H x d ∧ Dp K H y e ∧ SeqAt.shaped d = true ∧ SeqAt.shaped e = true ∧ Q (.bl (!PyData.eqv d e)) H := rfl
theorem rd_rep {x y : V} {H : Hp} {Q : VK} : rRep x y H Q = ∃ l k xs, x = .ref l ∧ y = .int k ∧ H l = some (.lst xs) ∧ -(2 ^ 63) ≤ k ∧ k < 2 ^ 63 ∧ xs.length * k.toNat ≤ sizeLine ∧ ∀ p, H p = none → Q (.ref p) (upd H p (.lst (List.replicate k.toNat xs).flatten)) := rfl
theorem dp_ints {K : PySem.W.Frag} {H : Hp} : ∀ l : List Int, DpAll K H (l.map V.int) (l.map PyData.int)
  | [] => .nil
  | i :: l => .cons (.int i) (dp_ints l)
theorem dp_strs {K : PySem.W.Frag} {H : Hp} : ∀ l : List Str, DpAll K H (l.map V.str) (l.map PyData.str)
  | [] => .nil
  | i :: l => .cons (.str i) (dp_strs l)
/-! ### powers of any size; tuples made of lists; data -/
def CPowI (i j : Int) : Prop := 0 ≤ j ∧ (Builtin.Int.intBits i : Int) * j ≤ 2 ^ 27
theorem op_powI {X : Cx} : OpR X (binaryOp .Pow) (rI CPowI fun i j => .int (i ^ j.toNat)) := opI fun _ _ _ _ _ _ _ hc q => pow_int hc.1 hc.2 q
theorem bits_le {i : Int} {n : Nat} (h : i.natAbs < 2 ^ n) (h0 : 0 < n) : Builtin.Int.intBits i ≤ n := by
  have a := PySem.Flt.log2_lt_of h0 h
  unfold Builtin.Int.intBits
  split <;> omega
theorem powI {i j : Int} {n : Nat} (h : i.natAbs < 2 ^ n) (h0 : 0 < n) (hj : 0 ≤ j) (hz : (n : Int) * j ≤ 2 ^ 27) : CPowI i j := by
  refine ⟨hj, Int.le_trans (Int.mul_le_mul_of_nonneg_right ?_ hj) hz⟩
  exact Int.ofNat_le.mpr (bits_le h h0)
def rTupOf (K : PySem.W.Frag) : List V → Hp → VK → Prop := fun xs H Q => ∃ p ys, xs = [.ref p] ∧ ((SqL K H p ys ∧ ∀ l, H l = none → Q (.ref l) (upd H l (.tup ys))) ∨ (SqT K H p ys ∧ Q (.ref p) H))
theorem cr_tupOf {X : Cx} : CallR X (.type "tuple") (rTupOf X.K) := call_tuple_of
theorem rd_tupOf {K : PySem.W.Frag} {xs : List V} {H : Hp} {Q : VK} : rTupOf K xs H Q = ∃ p ys, xs = [.ref p] ∧ ((SqL K H p ys ∧ ∀ l, H l = none → Q (.ref l) (upd H l (.tup ys))) ∨ (SqT K H p ys ∧ Q (.ref p) H)) := rfl
def rLenS (K : PySem.W.Frag) : List V → Hp → VK → Prop := fun xs H Q => ∃ x n, xs = [x] ∧ LenV K x H n ∧ Q (.int n) H
theorem cr_lenS {X : Cx} : CallR X (.builtin "len") (rLenS X.K) := call_len
theorem rd_lenS {K : PySem.W.Frag} {xs : List V} {H : Hp} {Q : VK} : rLenS K xs H Q = ∃ x n, xs = [x] ∧ LenV K x H n ∧ Q (.int n) H := rfl
theorem rd_gcd {vs : List V} {H : Hp} {Q : VK} : rGcd vs H Q = ∃ a b : Int, vs = [.int a, .int b] ∧ Q (.int ((Nat.gcd a.natAbs b.natAbs : Nat) : Int)) H := rfl
/-- what holds between two statements -/
theorem seq_cut {t u : TS} {D : Ends} {σ : L2.St} {H : Hp} (Pw : L2.St → Hp → Prop) (h1 : ∀ R : L2.St → Hp → Prop, (∀ σ H, Pw σ H → R σ H) → t { D with nx := R } σ H) (h2 : ∀ σ H, Pw σ H → u D σ H) : tSeq t u D σ H := h1 (u D) h2
end CB
/-! sorted of a list of triples of ints, any number of them -/
namespace CB
open PySem PyProof.Rows Srt SrtO L2
abbrev T3 := Int × Int × Int
def lexT (p q : T3) : Bool := if p.1 = q.1 then lexB p.2 q.2 else decide (p.1 < q.1)
theorem lexT_iff {p q : T3} : lexT p q = true ↔ p.1 < q.1 ∨ (p.1 = q.1 ∧ (p.2.1 < q.2.1 ∨ (p.2.1 = q.2.1 ∧ p.2.2 < q.2.2))) := by
  unfold lexT
  by_cases e : p.1 = q.1
  · rw [if_pos e, lexB_iff]
    omega
  · rw [if_neg e, decide_eq_true_eq]
    omega
theorem lexT_no {p q : T3} : lexT p q = false ↔ ¬ (p.1 < q.1 ∨ (p.1 = q.1 ∧ (p.2.1 < q.2.1 ∨ (p.2.1 = q.2.1 ∧ p.2.2 < q.2.2)))) := by
  rw [← lexT_iff]
  cases lexT p q <;> simp
theorem swo_T {α : Type} (k : α → T3) : Swo fun v u => lexT (k v) (k u) := by
  refine ⟨fun x y h => ?_, fun x y z h1 h2 => ?_⟩
  · have a := lexT_iff.mp h
    refine lexT_no.mpr ?_
    omega
  · have a := lexT_no.mp h1
    have b := lexT_no.mp h2
    refine lexT_no.mpr ?_
    omega
theorem lexT_eq {p q : T3} (h1 : lexT p q = false) (h2 : lexT q p = false) : p = q := by
  have a := lexT_no.mp h1
  have b := lexT_no.mp h2
  obtain ⟨p1, p2, p3⟩ := p
  obtain ⟨q1, q2, q3⟩ := q
  simp only at a b
  have e1 : p1 = q1 := by omega
  have e2 : p2 = q2 := by omega
  have e3 : p3 = q3 := by omega
  rw [e1, e2, e3]
/-- two sorted rearrangements of triples are one -/
theorem srtT_uniq : ∀ {l m : List T3}, l.Pairwise (fun p q => lexT q p = false) → m.Pairwise (fun p q => lexT q p = false) → l.Perm m → l = m := fun {l m} h1 h2 h => by
  refine List.Perm.eq_of_pairwise (le := fun p q => lexT q p = false) (fun a b _ _ x y => lexT_eq y x) h1 h2 h
section
variable {prog : Program} {w : World} {A : Around} {E : Value → Shared → Prop} {s : Shared}
def IsTrip (h : Heap) (v : Value) (k : T3) : Prop := ∃ a o t u r n, v = .ref a ∧ h.get? a = some o ∧ o.cls = .type "tuple" ∧ o.data = .seq #[.int k.1 t, .int k.2.1 u, .int k.2.2 r] n
theorem IsTrip.keeps {h h' : Heap} {v : Value} {k : T3} (p : IsTrip h v k) (kk : ∀ b o, h.get? b = some o → o.cls = .type "tuple" → h'.get? b = some o) : IsTrip h' v k := by
  obtain ⟨a, o, t, u, r, n, e, ho, hc, hd⟩ := p
  exact ⟨a, o, t, u, r, n, e, kk _ _ ho hc, hc, hd⟩
theorem firstsT {h : Heap} : ∀ {vs : List Value}, (∀ v ∈ vs, ∃ k, IsTrip h v k) → ∃ fs : List Value, PySem.W.KatTups h vs fs ∧ fs.length = vs.length ∧ ∀ f ∈ fs, ∃ x t, f = Value.int x t
  | [], _ => ⟨[], PySem.W.KatTups.nil, rfl, fun _ hm => by simp at hm⟩
  | v :: vs, hp => by
    obtain ⟨fs, h1, h2, h3⟩ := firstsT (vs := vs) fun v' hm => hp v' (List.mem_cons_of_mem _ hm)
    obtain ⟨k, a, o, t, u, r, n, e, ho, hc, hd⟩ := hp v (List.mem_cons_self ..)
    subst e
    refine ⟨.int k.1 t :: fs, PySem.W.KatTups.cons ho hc hd rfl h1, by rw [List.length_cons, List.length_cons, h2], fun f hm => ?_⟩
    rcases List.mem_cons.mp hm with rfl | hm
    · exact ⟨k.1, t, rfl⟩
    · exact h3 f hm
theorem trip_cmp {vs : List Value} {k : Value → T3} (hp : ∀ v ∈ vs, IsTrip s.heap v (k v)) : SrtO.Cmp prog w A s (tuples' true) (fun p => p.1 ∈ vs) (lt2 fun v u => lexT (k v) (k u)) := by
  intro p q hm hm'
  have h1 := hp _ hm
  have h2 := hp _ hm'
  show wpAny (model prog w) A (keyLt' (tuples' true) p.1 q.1) (fun r s' => s' = s ∧ r = lexT (k p.1) (k q.1)) (fun _ _ => False) s
  generalize k p.1 = kp at h1 ⊢
  generalize k q.1 = kq at h2 ⊢
  obtain ⟨x, y, z⟩ := kp
  obtain ⟨x', y', z'⟩ := kq
  obtain ⟨a, o, t, u, r, n, e, ho, hc, hd⟩ := h1
  obtain ⟨a', o', t', u', r', n', e', ho', hc', hd'⟩ := h2
  rw [e, e']
  simp only at hd hd'
  refine PySem.W.kat_lt ho hd ho' hd' ?_
  show PySem.W.KatLex prog w A true (decide (3 < 3)) _ [(.int x t, .int x' t'), (.int y u, .int y' u'), (.int z r, .int z' r')] 0 s
  refine PySem.W.kat_cons (SeqAt.EqAt.int_int x t x' t' prog w _ _ ?_)
  refine PySem.W.kat_go (fun e1 => ?_) (fun e1 => ?_)
  · have ex : x = x' := by simpa using e1
    refine PySem.W.kat_yes (PySem.W.kat_cons (SeqAt.EqAt.int_int y u y' u' prog w _ _ ?_))
    refine PySem.W.kat_go (fun e2 => ?_) (fun e2 => ?_)
    · have ey : y = y' := by simpa using e2
      refine PySem.W.kat_yes (PySem.W.kat_cons (SeqAt.EqAt.int_int z r z' r' prog w _ _ ?_))
      refine PySem.W.kat_go (fun e3 => ?_) (fun e3 => ?_)
      · have ez : z = z' := by simpa using e3
        have e4 : lexT (x, y, z) (x', y', z') = false := lexT_no.mpr (by simp only; omega)
        exact PySem.W.kat_yes (PySem.W.kat_nil ⟨rfl, e4.symm⟩)
      · have e4 : lexT (x, y, z) (x', y', z') = decide (z < z') := by
          unfold lexT lexB
          simp only
          rw [if_pos ex, if_pos ey]
        refine PySem.W.kat_no (PySem.W.kat_one _ _ (PyProof.Rows.lt_int ?_))
        exact (show s = s ∧ decide (z < z') = lexT (x, y, z) (x', y', z') from ⟨rfl, e4.symm⟩)
    · have ey : ¬ y = y' := by simpa using e2
      have e4 : lexT (x, y, z) (x', y', z') = decide (y < y') := by
        unfold lexT lexB
        simp only
        rw [if_pos ex, if_neg ey]
      refine PySem.W.kat_no (PySem.W.kat_one _ _ (PyProof.Rows.lt_int ?_))
      exact (show s = s ∧ decide (y < y') = lexT (x, y, z) (x', y', z') from ⟨rfl, e4.symm⟩)
  · have ex : ¬ x = x' := by simpa using e1
    have e3 : lexT (x, y, z) (x', y', z') = decide (x < x') := by
      unfold lexT
      simp only
      rw [if_neg ex]
    exact PySem.W.kat_no (oneLt_int ⟨rfl, e3.symm⟩)
theorem trips_sortableO {a : Addr} {vs : List Value} {k : Value → T3} (h0 : 0 < vs.length) (hp : ∀ v ∈ vs, IsTrip s.heap v (k v)) (ha : ∀ o, s.heap.get? a = some o → o.cls ≠ .type "tuple") : SortableO prog w A s a vs fun v u => lexT (k v) (k u) := by
  intro h' keep
  have hp' : ∀ v ∈ vs, IsTrip h' v (k v) := fun v hm => (hp v hm).keeps fun b o e c => keep b o (fun z => by subst z; exact ha o e c) e
  obtain ⟨fs, h1, h2, h3⟩ := firstsT fun v hm => ⟨_, hp' v hm⟩
  refine ⟨tuples' true, fun Q E hq => ?_, trip_cmp hp'⟩
  refine PySem.W.kat_kind (T := .type "int") h1 (by omega) (fun f hm => ?_) (by rfl) ?_
  · obtain ⟨x, t, rfl⟩ := h3 f hm
    exact PySem.W.Looks.now
  · have e : (Value.type "int" != Value.type "tuple") = true := by first | decide +kernel | rfl | decide
    rw [e]
    exact hq
theorem sorted_tripsO {l : Addr} {vs : List Value} {k : Value → T3} {Q : Value → Shared → Prop} (hl : s.heap.IsList l vs.toArray) (hz : vs.length ≤ sizeLine) (hp : ∀ v ∈ vs, IsTrip s.heap v (k v))
    (h : ∀ (h' : Heap) (d : Addr) (out : List Value), Srtd (fun v u => lexT (k v) (k u)) out → Stb (fun v u => lexT (k v) (k u)) out vs → (∀ b o, s.heap.get? b = some o → h'.get? b = some o) → s.heap.objs.size ≤ d → (∃ n, h'.get? d = some (seqObj "list" out.toArray n)) → Q (.ref d) { s with heap := h' }) :
    wpAny (model prog w) A (call (.builtin "sorted") [.ref l]) Q E s := by
  refine sorted_ord (swo_T k) hl hz (fun h2 h₁ a ha kk => ?_) fun out hs hb => ?_
  · refine trips_sortableO (s := { s with heap := h₁ }) (by omega) (fun v hm => (hp v hm).keeps fun b o e _ => (kk b o e).2) fun o e => ?_
    have e' : some o = some (seqObj "list" vs.toArray 0) := e.symm.trans ha
    cases e'
    intro c
    exact absurd (Value.type.inj c) (by decide)
  · exact h _ _ out hs hb (fun b o e => sortedAll_old e) (Nat.le_succ _) (sortedAll_at s.heap vs out.toArray)
end
end CB
namespace CB
open PySem PySem.Spec PyProof.Rows L2
/-- the triple that stands at x -/
def kT (H : Hp) : V → T3
  | .ref r => match H r with
    | some (.tup [.int a, .int b, .int c]) => (a, b, c)
    | _ => (0, 0, 0)
  | _ => (0, 0, 0)
def IsT3 (H : Hp) (x : V) : Prop := ∃ r a b c, x = V.ref r ∧ H r = some (.tup [.int a, .int b, .int c])
theorem IsT3.at {H : Hp} {x : V} (h : IsT3 H x) : ∃ r, x = V.ref r ∧ H r = some (.tup [.int (kT H x).1, .int (kT H x).2.1, .int (kT H x).2.2]) := by
  obtain ⟨r, a, b, c, rfl, e⟩ := h
  refine ⟨r, rfl, ?_⟩
  have q : kT H (V.ref r) = (a, b, c) := by
    show (match H r with
      | some (.tup [.int a, .int b, .int c]) => (a, b, c)
      | _ => (0, 0, 0)) = _
    rw [e]
  rw [q, e]
/-- the list of triples that stand at the xs -/
def Trs (H : Hp) (xs : List V) (ts : List T3) : Prop := (∀ x ∈ xs, IsT3 H x) ∧ ts = xs.map (kT H)
theorem kT_same {H H' : Hp} (s : Same H H') {x : V} (h : IsT3 H x) : kT H' x = kT H x ∧ IsT3 H' x := by
  obtain ⟨r, a, b, c, rfl, e⟩ := h
  have e' := s _ _ e
  refine ⟨?_, r, a, b, c, rfl, e'⟩
  show (match H' r with
      | some (.tup [.int a, .int b, .int c]) => (a, b, c)
      | _ => (0, 0, 0)) = (match H r with
      | some (.tup [.int a, .int b, .int c]) => (a, b, c)
      | _ => (0, 0, 0))
  rw [e, e']
theorem Trs.same {H H' : Hp} {xs : List V} {ts : List T3} (s : Same H H') (h : Trs H xs ts) : Trs H' xs ts := by
  obtain ⟨h1, rfl⟩ := h
  exact ⟨fun x m => (kT_same s (h1 x m)).2, List.map_congr_left fun x m => (kT_same s (h1 x m)).1.symm⟩
theorem Trs.keep {H H' : Hp} {xs : List V} {ts : List T3} (s : ∀ r a b c, H r = some (.tup [.int a, .int b, .int c]) → H' r = some (.tup [.int a, .int b, .int c])) (h : Trs H xs ts) : Trs H' xs ts := by
  obtain ⟨h1, rfl⟩ := h
  refine ⟨fun x m => ?_, List.map_congr_left fun x m => ?_⟩
  · obtain ⟨r, a, b, c, e, q⟩ := h1 x m
    exact ⟨r, a, b, c, e, s _ _ _ _ q⟩
  · obtain ⟨r, a, b, c, rfl, q⟩ := h1 x m
    show (match H r with
      | some (.tup [.int a, .int b, .int c]) => (a, b, c)
      | _ => (0, 0, 0)) = (match H' r with
      | some (.tup [.int a, .int b, .int c]) => (a, b, c)
      | _ => (0, 0, 0))
    rw [q, s _ _ _ _ q]
theorem same_at {H H1 : Hp} {f : Addr} {o : HO} (s : Same H H1) (n : H f = none) : Same H (upd H1 f o) := fun b x e => by
  rw [upd_ne (ne_of_none e n)]
  exact s b x e
theorem Trs.updL {H : Hp} {f : Addr} {l : List V} {o : HO} {xs : List V} {ts : List T3} (h : Trs H xs ts) (e : H f = some (.lst l)) : Trs (upd H f o) xs ts :=
  h.keep fun r a b c q => by rw [upd_ne (ne_of q e (by intro z; cases z))]; exact q
theorem Trs.updN {H : Hp} {f : Addr} {o : HO} {xs : List V} {ts : List T3} (h : Trs H xs ts) (e : H f = none) : Trs (upd H f o) xs ts := h.same (same_upd e)
theorem Trs.nil {H : Hp} : Trs H [] [] := ⟨fun x m => by simp at m, rfl⟩
theorem Trs.snoc {H : Hp} {xs : List V} {ts : List T3} {r : Addr} {a b c : Int} (h : Trs H xs ts) (e : H r = some (.tup [.int a, .int b, .int c])) : Trs H (xs ++ [.ref r]) (ts ++ [(a, b, c)]) := by
  obtain ⟨h1, rfl⟩ := h
  refine ⟨fun x m => ?_, ?_⟩
  · rcases List.mem_append.mp m with m | m
    · exact h1 x m
    · rw [List.mem_singleton.mp m]
      exact ⟨r, a, b, c, rfl, e⟩
  · rw [List.map_append]
    show _ = _ ++ [kT H (.ref r)]
    have q : kT H (V.ref r) = (a, b, c) := by
      show (match H r with
        | some (.tup [.int a, .int b, .int c]) => (a, b, c)
        | _ => (0, 0, 0)) = _
      rw [e]
    rw [q]
theorem Trs.get {H : Hp} {xs : List V} {ts : List T3} {i : Nat} {x : V} (h : Trs H xs ts) (e : xs[i]? = some x) : ∃ r a b c, x = .ref r ∧ H r = some (.tup [.int a, .int b, .int c]) ∧ ts[i]? = some (a, b, c) := by
  obtain ⟨h1, rfl⟩ := h
  obtain ⟨r, e1, e2⟩ := (h1 x (List.mem_of_getElem? e)).at
  exact ⟨r, _, _, _, e1, e2, by rw [List.getElem?_map, e]; rfl⟩
theorem Trs.len {H : Hp} {xs : List V} {ts : List T3} (h : Trs H xs ts) : ts.length = xs.length := by
  rw [h.2, List.length_map]
/-- sorted(xs), xs a list of triples of ints -/
def rSorted3 (K : PySem.W.Frag) : List V → Hp → VK → Prop := fun vs H Q => ∃ (a : Addr) (xs : List V) (ts : List T3), vs = [V.ref a] ∧ SqL K H a xs ∧ Trs H xs ts ∧
  ∀ ys us p, Trs H ys us → us.Pairwise (fun p q => lexT q p = false) → us.Perm ts → H p = none → Q (.ref p) (upd H p (.lst ys))
section
variable {X : Cx}
theorem cr_sorted3 : CallR X (.builtin "sorted") (rSorted3 X.K) := by
  intro pins s σ H vs us Q I r h
  obtain ⟨a, xs, ts, rfl, hs, ⟨hx, rfl⟩, q⟩ := h
  obtain ⟨its, rv, hl, hz⟩ := I.list hs
  obtain ⟨u, rfl, ru⟩ := vals1 r
  obtain rfl : u = Value.ref a := ru
  obtain ⟨e1, e2⟩ := refs_back rv fun x m => by
    obtain ⟨t, e, _⟩ := (hx x m).at
    exact ⟨t, e⟩
  refine sorted_tripsO (k := fun u => kT H (backV u)) hl.isList (by rw [← rv.length]; exact hz) (fun v hv => ?_) fun h' d out h1 h2 kp hd hn => ?_
  · obtain ⟨t, rfl⟩ := e2 v hv
    have hm : V.ref t ∈ xs := by rw [e1]; exact List.mem_map.mpr ⟨_, hv, rfl⟩
    obtain ⟨t', e, ht⟩ := (hx _ hm).at
    cases e
    obtain ⟨_, its2, r2, o, ho, hc, n, hd⟩ := I.hok _ _ ht
    cases r2 with
    | cons ra r2 =>
      cases r2 with
      | cons rb r2 =>
        cases r2 with
        | cons rc r2 =>
          cases r2
          obtain ⟨t1, rfl⟩ := ra
          obtain ⟨t2, rfl⟩ := rb
          obtain ⟨t3, rfl⟩ := rc
          exact ⟨t, o, t1, t2, t3, n, rfl, ho, hc, hd⟩
  · have h3 : ∀ u ∈ out, ∃ a, u = Value.ref a := fun u hu => e2 u (h2.perm.mem_iff.mp hu)
    obtain ⟨n, hn⟩ := hn
    have hp : (out.map backV).Perm xs := by
      rw [e1]
      exact h2.perm.map backV
    have hT : ∀ x ∈ out.map backV, IsT3 H x := fun x m => hx x (hp.mem_iff.mp m)
    have hS : ((out.map backV).map (kT H)).Pairwise (fun p q => lexT q p = false) := by
      rw [List.pairwise_map, List.pairwise_map]
      exact h1
    refine ⟨.ref d, upd H d (.lst (out.map backV)), I.laid (t' := s.toks) kp hd ⟨?_, out, n, vals_back h3, hn⟩, rfl, q _ _ d ⟨hT, rfl⟩ hS (hp.map (kT H)) (I.hok.fresh hd)⟩
    rw [hp.length_eq]
    exact hz
end
section
variable {H : Hp} {Q : VK} {K : PySem.W.Frag} {vs : List V}
theorem rd_sorted3 : rSorted3 K vs H Q = ∃ (a : Addr) (xs : List V) (ts : List T3), vs = [V.ref a] ∧ SqL K H a xs ∧ Trs H xs ts ∧
  ∀ ys us p, Trs H ys us → us.Pairwise (fun p q => lexT q p = false) → us.Perm ts → H p = none → Q (.ref p) (upd H p (.lst ys)) := rfl
end
/-! ### triples as data -/
def dT3 (t : T3) : PyData := .tuple [.int t.1, .int t.2.1, .int t.2.2]
theorem dp_t3 {K : PySem.W.Frag} {H : Hp} {x : V} (h : IsT3 H x) : Dp K H x (dT3 (kT H x)) := by
  obtain ⟨r, rfl, e⟩ := h.at
  exact .tup (SqT.of e) (.cons (.int _) (.cons (.int _) (.cons (.int _) .nil)))
theorem dp_trs {K : PySem.W.Frag} {H : Hp} : ∀ {xs : List V} {ts : List T3}, Trs H xs ts → DpAll K H xs (ts.map dT3) := fun {xs ts} h => by
  obtain ⟨h1, rfl⟩ := h
  induction xs with
  | nil => exact .nil
  | cons x xs ih => exact .cons (dp_t3 (h1 x List.mem_cons_self)) (ih fun y m => h1 y (List.mem_cons_of_mem _ m))
theorem lay_t3 : ∀ ts : List T3, PyData.canLayAll0 (ts.map dT3) = true
  | [] => rfl
  | t :: ts => by
    show (PyData.canLay0 (dT3 t) && PyData.canLayAll0 (ts.map dT3)) = true
    rw [lay_t3 ts]
    rfl
theorem depth_t3 : ∀ ts : List T3, PyData.depthAll (ts.map dT3) ≤ 3
  | [] => by decide
  | t :: ts => by
    have := depth_t3 ts
    show max (PyData.depth (dT3 t)) (PyData.depthAll (ts.map dT3)) ≤ 3
    have e : PyData.depth (dT3 t) = 1 := rfl
    omega
theorem shaped_t3 (ts : List T3) : SeqAt.shaped (.tuple (ts.map dT3)) = true := by
  unfold SeqAt.shaped
  have a : PyData.canLay0 (.tuple (ts.map dT3)) = true := lay_t3 ts
  have b : PyData.depth (.tuple (ts.map dT3)) ≤ 64 := by
    have := depth_t3 ts
    show PyData.depthAll (ts.map dT3) + 1 ≤ 64
    omega
  rw [a, decide_eq_true b]
  rfl
end CB
/-! try with several clauses, each with a name or without -/
namespace CB
open PySem PySem.Spec PyProof.Rows L2
abbrev Cl := Value × Option Nat × (Addr → Value → Option Addr → TS)
def endA (i : Option Nat) (D : Ends) : Ends := match i with
  | none => D
  | some i => { nx := fun p q => D.nx (p.set i none) q, rt := D.rt, bk := fun p q => D.bk (p.set i none) q, ct := fun p q => D.ct (p.set i none) q }
def setA (i : Option Nat) (p : L2.St) (a : Addr) : L2.St := match i with
  | none => p
  | some i => p.set i (some (.ref a))
def wA (K : PySem.W.Frag) (Wo : WX) (D : Ends) : List Cl → WX
  | [] => Wo
  | (c, i, ts) :: r => fun cls d p H => ∃ b, PySem.W.exmOne K cls c = some b ∧ (b = true → ∀ a, H a = none → ts a cls d (endA i D) (setA i p a) H) ∧ (b = false → wA K Wo D r cls d p H)
/-- the clauses of the text -/
inductive HdA (X : Cx) : List ExceptHandler → List Cl → Prop
  | nil : HdA X [] []
  | bare {x : Str} {c : Value} {ts : Addr → Value → Option Addr → TS} {b1 : Stmt} {su : List Stmt} {np pp : Pos} {hs : List ExceptHandler} {l : List Cl} (hc : Names X x c)
      (hw : ∀ (a : Addr) (o : Obj) (cls : Value) (d : Option Addr) (pn : List (Addr × Obj)), Zc cls d o → (∃ vs, o.data = .fields vs) → PSs (X.suite a ((a, o) :: pn)) (b1 :: su) (ts a cls d)) (r : HdA X hs l) :
      HdA X (.ExceptHandler (some (.Name x np)) none (b1 :: su) pp :: hs) ((c, none, ts) :: l)
  | named {x n : Str} {c : Value} {i : Nat} {ts : Addr → Value → Option Addr → TS} {b1 : Stmt} {su : List Stmt} {np pp : Pos} {hs : List ExceptHandler} {l : List Cl} (hc : Names X x c) (hi : X.N[i]? = some n) (hn : X.env.kindOf n = some .local)
      (hw : ∀ (a : Addr) (o : Obj) (cls : Value) (d : Option Addr) (pn : List (Addr × Obj)), Zc cls d o → (∃ vs, o.data = .fields vs) → PSs (X.suite a ((a, o) :: pn)) (b1 :: su) (ts a cls d)) (r : HdA X hs l) :
      HdA X (.ExceptHandler (some (.Name x np)) (some n) (b1 :: su) pp :: hs) ((c, some i, ts) :: l)
section
variable {X : Cx} {body : List Stmt} {h1 : ExceptHandler} {hs : List ExceptHandler} {l : List Cl} {pos : Pos} {tb : WX → TS} {Wo : WX}
theorem ps_tryA (hst : X.stack = X.env :: X.outer) (hf : X.env.frame = some X.env.locals) (hN : X.N.Nodup) (tk : Takes X Wo)
    (hb : ∀ (W : WX) (pn : List (Addr × Obj)) (xe : Value → Shared → Prop), Takes (X.tr pn xe) W → PassesOwn (model X.prog X.w) X.A X.env xe → PSs (X.tr pn xe) body (tb W))
    (hh : HdA X (h1 :: hs) l) : PS X (.Try body (h1 :: hs) [] [] pos) (fun D p H => tb (wA X.K Wo D l) D p H) := by
  refine ⟨fun pins s p H D I hgo => ?_⟩
  have ok := I.ok
  have frm : X.A.frames = some (X.env :: X.outer) := by rw [ok.frames, hst]
  refine wpAny_Try_except (wpAny_mono ((hb (wA X.K Wo D l) (X.pn ++ pins) (fun e s₁ => wpAny (model X.prog X.w) X.A (noteFrame e X.env) (fun _ s₂ => wpAny (model X.prog X.w) X.A (setFlight e none) (fun _ s₃ => wpAny (model X.prog X.w) X.A (handleBy e X.env (h1 :: hs)) (SP X pins D) X.xe s₃) X.xe s₂) X.xe s₁)
    (fun u s' xx => ?_) PassesOwn.looking).run [] s p H D (I.toTry _) hgo) (fun f s1 hsp => ?_) (fun e s1 he => he))
  · obtain ⟨a, B, sI, pins', p', H', cls, d, rfl, Jt, nb, up, sky, na, os, ag, wish⟩ := xx
    have J : Inv X pins p' H' sI := Jt.ofTry ok
    have skyB : Sky B (X.env :: X.outer) a (Zc cls d) X.env.locals s'.heap := by rw [← hst]; exact sky
    show wpAny (model X.prog X.w) X.A (noteFrame (.ref a) X.env) _ _ _
    refine Sky.land Zc.steady frm hf skyB fun hp3 fl3 up3 => ?_
    have J3 : Inv X pins p' H' { s' with heap := hp3 } := J.landed nb fl3.1 (up.trans up3) os ag
    obtain ⟨o3, v3, g3, z3, d3⟩ := fl3.there
    have out : ∀ {hp : Heap} {o : Obj} {vs : Array Value}, hp.FunFrames B (X.env :: X.outer) → hp.get? a = some o → o.data = .fields vs → a ∉ frs (X.env :: X.outer) := fun {hp o vs} ff e dd hm => by
      obtain ⟨_, o', e', hnf⟩ := ff.mem hm; rw [e] at e'; cases e'; exact hnf _ dd
    have nfr := out fl3.2.2.1 g3 d3
    have nL : a ≠ X.env.locals := fun z => nfr (List.mem_filterMap.mpr ⟨X.env, List.mem_cons_self, by rw [hf, z]⟩)
    have nF : a ∉ X.fs := fun hm => by obtain ⟨e, he, q⟩ := List.mem_filterMap.mp hm; exact nfr (List.mem_filterMap.mpr ⟨e, List.mem_cons_of_mem _ he, q⟩)
    have S3 := J3.suite g3 d3 na nL nF
    have LT : PySem.W.Looks (model X.prog X.w) hp3 (typeOf (.ref a)) cls := fun A Q E s k q => wpAny_typeOf_ref (k _ _ g3) (by rw [z3.1]; exact q)
    have test : ∀ {x : Str} {np : Pos} {c : Value} (hc : Names X x c) {Q : Value → Shared → Prop} {E : Value → Shared → Prop}, Q c { s' with heap := hp3 } → wpAny (model X.prog X.w) (X.A.mark (some (.ref a))) (eval (.Name x np) X.env) Q E { s' with heap := hp3 } := fun {x np c} hc {Q E} q => by
      obtain ⟨hg, hdb, hm | ⟨hm, hv, hnn⟩⟩ := hc
      · exact ld_glob (X := X.suite a ((a, o3) :: (X.pn ++ pins))) S3 hg hm q hdb
      · exact ld_blt (X := X.suite a ((a, o3) :: (X.pn ++ pins))) S3 hg hm hv q hnn hdb
    have go : ∀ {hs' : List ExceptHandler} {l' : List Cl}, HdA X hs' l' → wA X.K Wo D l' cls d p' H' → wpAny (model X.prog X.w) X.A (handleBy (.ref a) X.env hs') (SP X pins D) X.xe { s' with heap := hp3 } := by
      intro hs' l' hk
      induction hk with
      | nil =>
        intro w
        refine wpAny_handleBy_nil ?_
        obtain ⟨k1, k2, k3, oe, vs, T, oT, ts', he, hz, hd, h1', hr⟩ := id fl3
        unfold PySem.passOn
        refine wpAny_bind (wpAny_field he hd h1' ?_)
        rw [if_neg (show ¬ ((Value.ref T == Value.none) = true) from by simp)]
        have fin : wpAny (model X.prog X.w) X.A (setFlight (.ref a) X.env.frame) (fun _ s4 => wpAny (model X.prog X.w) X.A (throw (.ref a) : Sem Flow) (SP X pins D) X.xe s4) X.xe { s' with heap := hp3 } := by
          rw [hf]
          refine HandSPX.setFlight_upZ fl3 fun h4 hh4 up4 => wpAny_throw (tk _ _ ?_)
          exact ⟨a, B, sI, pins, p', H', cls, d, rfl, J, nb, (up.trans up3).trans up4, .inr (.inr (by rw [hst]; exact hh4)), na, os, ag, w⟩
        first | exact wpAny_bind (wpAny_pure (wpAny_bind fin)) | exact wpAny_bind fin
      | @bare x c ts b1 su np pp hs2 l2 hc hw r ih =>
        intro w
        obtain ⟨b, hb1, hyes, hno⟩ := w
        refine wpAny_handleBy_cons (codeAny_handlers_test ?_) (by intro q; cases q)
        have LM := PySem.W.exm_one (M := model X.prog X.w) (J3.kIn) LT hb1
        refine test hc (LM.here ?_)
        cases b with
        | true =>
          refine codeAny_handlers_suite (HandSPX.lands_againZ fl3 fun h4 fl4 up4 => ?_)
          have J4 : Inv X pins p' H' { s' with heap := h4 } := J.landed nb fl4.1 ((up.trans up3).trans up4) os ag
          obtain ⟨o4, v4, g4, z4, d4⟩ := fl4.there
          have S4 := J4.suite g4 d4 na nL nF
          refine wpAny_mono ((hw a o4 cls d (X.pn ++ pins) z4 ⟨_, d4⟩).run [] _ _ H' _ S4 (hyes rfl a na)) (fun f s6 hsp => ?_) (fun _ _ z => False.elim z)
          cases f with
          | ret u => obtain ⟨v6, p6, H6, S6, r6, q6⟩ := hsp; exact ⟨_, _, _, S6.unsuite ok, r6, q6⟩
          | _ => obtain ⟨p6, H6, S6, q6⟩ := hsp; exact ⟨_, _, S6.unsuite ok, q6⟩
        | false => exact ih (hno rfl)
      | @named x n c i ts b1 su np pp hs2 l2 hc hi hn hw r ih =>
        intro w
        obtain ⟨b, hb1, hyes, hno⟩ := w
        refine wpAny_handleBy_cons (codeAny_handlers_test ?_) (by intro q; cases q)
        have LM := PySem.W.exm_one (M := model X.prog X.w) (J3.kIn) LT hb1
        refine test hc (LM.here ?_)
        cases b with
        | true =>
          refine codeAny_handlers_suite_as (HandSPX.lands_againZ fl3 fun h4 fl4 up4 => ?_)
          have J4 : Inv X pins p' H' { s' with heap := h4 } := J.landed nb fl4.1 ((up.trans up3).trans up4) os ag
          obtain ⟨o4, v4, g4, z4, d4⟩ := fl4.there
          have S4 := J4.suite g4 d4 na nL nF
          refine store_ok (X := X.suite a ((a, o4) :: (X.pn ++ pins))) (v := .ref a) S4 hN hi (.inl hn) rfl (fun s5 S5 => ?_) (.inr hn)
          refine wpAny_mono ((hw a o4 cls d (X.pn ++ pins) z4 ⟨_, d4⟩).run [] s5 _ H' _ S5 (hyes rfl a na)) (fun f s6 hsp => ?_) (fun _ _ z => False.elim z)
          have gone : ∀ {p6 : L2.St} {H6 : Hp} {Q : Shared → Prop}, Inv (X.suite a ((a, o4) :: (X.pn ++ pins))) [] p6 H6 s6 → (∀ s7, Inv X pins (p6.set i none) H6 s7 → Q s7) →
              wpAny (model X.prog X.w) X.A (do bindName X.env n .none; unbindBehindTheSuite X.env n pp) (fun _ s7 => Q s7) X.xe s6 := fun {p6 H6 Q} S6 hq => gone_ok (S6.unsuite ok) hN hi hn hq
          cases f with
          | ret u => obtain ⟨v6, p6, H6, S6, r6, q6⟩ := hsp; exact gone S6 fun s7 J7 => ⟨_, _, _, J7, r6, q6⟩
          | next => obtain ⟨p6, H6, S6, q6⟩ := hsp; exact gone S6 fun s7 J7 => ⟨_, _, J7, q6⟩
          | brk => obtain ⟨p6, H6, S6, q6⟩ := hsp; exact gone S6 fun s7 J7 => ⟨_, _, J7, q6⟩
          | cont => obtain ⟨p6, H6, S6, q6⟩ := hsp; exact gone S6 fun s7 J7 => ⟨_, _, J7, q6⟩
        | false => exact ih (hno rfl)
    exact go hh wish
  · cases f with
    | ret u => obtain ⟨v, p', H', J', r, q⟩ := hsp; exact ⟨v, p', H', J'.ofTry ok, r, q⟩
    | next => obtain ⟨p', H', J', q⟩ := hsp; exact wpAny_execs_nil ⟨p', H', J'.ofTry ok, q⟩
    | brk => obtain ⟨p', H', J', q⟩ := hsp; exact ⟨p', H', J'.ofTry ok, q⟩
    | cont => obtain ⟨p', H', J', q⟩ := hsp; exact ⟨p', H', J'.ofTry ok, q⟩
end
end CB
/-! the program's errors: Malformed (no own __init__), Refused (with its reason) -/
namespace CB
open PySem PySem.Spec PyProof.Rows L2
structure CalX (P : Program) (w : World) (K : PySem.W.Frag) (mg : Str → Option Value) (base : Heap) (x : Str) (k : Nat) (ps : List Str) (sp : Sp) : Prop where
  ok : ∃ f fd, FnOk P w K mg base (L2.CX P w) k f fd ps sp ∧ mg x = some (.ref f) ∧ PySem.W.keepIn K (.ref f) = true ∧ Binds K fd ps []
section
variable {P : Program} {w : World} {K : PySem.W.Frag} {mg : Str → Option Value} {base : Heap}
theorem Dn.calX {x : Str} {st : Stmt} {N ps : List Str} {k : Nat} {sp : Sp} (D : Dn K mg x st ps) (S : FnScope N ps (defScope st)) (len : ∀ vs H Q E, sp vs H Q E → vs.length = ps.length)
    (hbody : ∀ (f : Addr) (cdv : Value) (A : Around) (outer : List Env) (s : Shared) (H : Hp) (vs : List V) (Q : VK) (E : XK), Room k (A.deeper (envOfC x (defScope st) s.heap.objs.size f cdv)) → sp vs H Q E →
      ∃ t, PSs (cxOf (L2.CX P w) P w K mg base N x (defScope st) f cdv A outer s H E) (defBody st) t ∧ t { nx := fun _ H' => Q .non H', rt := Q } (start N vs) H) : CalX P w K mg base x (k + 1) ps sp := by
  obtain ⟨f, fd, F, hm, hb⟩ := D.ok
  exact ⟨f, fd, F.okX S len fun cdv A outer s H vs Q E hr h => hbody f cdv A outer s H vs Q E hr h, hm, F.kp, hb⟩
end
section
variable {X : Cx} {k : Nat} {ps : List Str} {sp : Sp} {x : Str} {p pos : Pos} {e : Expr} {es : List Expr} {t : TA} {W : WX}
/-- a call that may raise, W what is wished of what it raises -/
theorem pe_calS (C : CalX X.prog X.w X.K X.mg X.base x k ps sp) (tk : Takes X W) (hr : Room k X.A) (hg : Gl X x) (ha : PA X (e :: es) t) (hdb : (x == ("__debug__" : Str)) = false := by decide)
    (he : starEach (e :: es) X.env = (false, eval e X.env) :: starEach es X.env := by rfl) (hpl : (backTo pos (starEach es X.env)).any (·.1) = false := by rfl) : PE X (.Call (.Name x p) (e :: es) [] pos) (tCallS sp (WE W) t) := by
  obtain ⟨f, fd, F, hm, hk, hb⟩ := C.ok
  exact pe_callS F hr hg hm hk hb (fun σ => passAt tk σ) ha hdb he hpl
end
abbrev veB : List Value := [.type "ValueError", .type "Exception", .type "BaseException", .type "object"]
structure ErrM (K : PySem.W.Frag) (mg : Str → Option Value) (C : Addr) : Prop where
  g : mg "Malformed" = some (.ref C)
  x : PySem.W.excIn K C veB "ValueError.__new__" = true
  k : PySem.W.keepIn K (.ref C) = true
  b : PySem.W.subIn K (.ref C) (.type "BaseException") = some true
  t : PySem.W.typeIn K (.ref C) = some (.type "type")
  mm : PySem.W.exmOne K (.ref C) (.ref C) = some true
structure ErrR (K : PySem.W.Frag) (mg : Str → Option Value) (M C f : Addr) : Prop where
  g : mg "Refused" = some (.ref C)
  ox : OexC K C
  i : PySem.W.findIn K (.ref C) "__init__" = some (some (.ref f))
  t : PySem.W.typeIn K (.ref f) = some (.type "function")
  n : PySem.W.findIn K (.ref C) "reason" = some none
  xf : XfC K C
  rm : PySem.W.exmOne K (.ref C) (.ref M) = some false
  rr : PySem.W.exmOne K (.ref C) (.ref C) = some true
/-- Refused.__init__(self, reason) -/
def spRI (K : PySem.W.Frag) : Sp := fun vs H Q _ => ∃ (a C : Addr) (v : V), vs = [.ref a, v] ∧ OexC K C ∧ PySem.W.findIn K (.ref C) "reason" = some none ∧ H a = some (exo a C none) ∧
  ∀ dx, H dx = none → dx ≠ a → Q .non (upd (upd H dx (exd dx [("reason", v)])) a (exo a C (some dx)))
structure ErrI (P : Program) (w : World) (K : PySem.W.Frag) (mg : Str → Option Value) (base : Heap) (M C : Addr) : Prop where
  m : ErrM K mg M
  r : ∃ f fd, ErrR K mg M C f ∧ FnOk P w K mg base CX0 1 f fd ["self", "reason"] (spRI K) ∧ Binds K fd ["self", "reason"] []
section
variable {P : Program} {w : World} {K : PySem.W.Frag} {mg : Str → Option Value} {base : Heap} {M C : Addr}
end
/-- raise Malformed('..') -/
theorem ps_mal {X : Cx} {W : WX} {M : Addr} {m : Str} {j : Nat} {p p2 pos pp : Pos} (E : ErrM X.K X.mg M) (hc : X.calm = true) (tk : Takes X W) (hg : Gl X "Malformed") : PS X (.Raise (some (.Call (.Name "Malformed" p) [.Constant (.str m) j p2] [] pos)) none pp) (fun _ σ H => W (.ref M) none σ H) :=
  ps_raise hc tk (pmk_own PySem.F.excBase_ValueError E.x E.g E.k (raises_own E.b E.t) hg)
/-- raise Refused('..') -/
theorem ps_ref {X : Cx} {W : WX} {M C : Addr} {m : Str} {j : Nat} {p p2 pos pp : Pos} (E : ErrI X.prog X.w X.K X.mg X.base M C) (hc : X.calm = true) (tk : Takes X W) (hr : Room 2 X.A) (hg : Gl X "Refused") (hs : starEach [Expr.Constant (.str m) j p2] X.env = (false, eval (Expr.Constant (.str m) j p2) X.env) :: starEach [] X.env := by rfl)
    (hpl : (backTo pos (starEach [] X.env)).any (·.1) = false := by rfl) :
    PS X (.Raise (some (.Call (.Name "Refused" p) [.Constant (.str m) j p2] [] pos)) none pp) (fun _ σ H => ∀ d H', Same H H' → H d = none → H' d = some (.xd [("reason", .str m)]) → W (.ref C) (some d) σ H') := by
  obtain ⟨f, fd, R, F, b⟩ := E.r
  refine ⟨fun pins s σ H D I h => ?_⟩
  refine (ps_raise hc tk (pmk_oex R.ox R.i R.t F hr b .nil pass0 hg R.g (pa_cons pe_str pa_nil hs) rfl hs hpl)).run pins s σ H D I ?_
  show ([V.str m].length ≤ 1000 ∧ _)
  refine ⟨by show 1 ≤ 1000; decide, fun a na => ⟨a, C, .str m, rfl, R.ox, R.n, upd_same, fun dx ndx ne => ⟨rfl, dx, [("reason", .str m)], upd_same, ?_, ?_, ?_⟩⟩⟩
  · rw [upd_ne ne, upd_same]
  · rw [upd_ne ne] at ndx
    exact ndx
  · rw [upd_ne ne] at ndx
    refine h dx _ (fun b o e => ?_) ndx upd_same
    have hbd : b ≠ dx := ne_of_none e ndx
    have hba : b ≠ a := ne_of_none e na
    rw [upd_ne hbd, del_ne hba, upd_ne hba, upd_ne hbd, upd_ne hba]
    exact e
end CB
namespace CB
open PySem PySem.Spec PyProof.Rows L2
theorem exm_b {K : PySem.W.Frag} {S C : Addr} {b : Bool} (h1 : PySem.W.subIn K (.ref C) (.type "BaseException") = some true) (h2 : PySem.W.isClsIn K C = true) (h3 : PySem.W.typeIn K (.ref C) = some (.type "type")) (h4 : PySem.W.subIn K (.ref S) (.ref C) = some b) :
    PySem.W.exmOne K (.ref S) (.ref C) = some b := by
  unfold PySem.W.exmOne
  rw [if_pos (by rw [h1] <;> rfl)]
  show (if ((PySem.W.clsIn K C).isSome && PySem.W.typeIn K (.ref C) == some (.type "type")) = true then PySem.W.subIn K (.ref S) (.ref C) else none) = some b
  have h5 : (PySem.W.clsIn K C).isSome = true := h2
  rw [h5, h3, if_pos (by rfl)]
  exact h4
theorem dn_mk {K : PySem.W.Frag} {h : Heap} {mg : Str → Option Value} {x : Str} {st : Stmt} {ps : List Str} {f : Addr} {oc : Value} {od an : Option Addr} {osl : Array (Option Value)} {kV doc pm cdv ct : Value} (X : K.In h) (G : h.Ns mainGlobals mg)
    (a : PySem.W.nsIn K mainGlobals x = some (some (.ref f))) (l : K.lookup f = some ⟨oc, od, .func (PySem.W.fnOf x x (defArgs st) (defBody st) (defScope st) .none kV doc pm an cdv ct), osl⟩) (c : PySem.W.codeIn K cdv x = true) (k : PySem.W.keepIn K (.ref f) = true)
    (hb : ∀ (kV doc pm : Value) (an : Option Addr) (cdv ct : Value) (us : List Value), us.length = ps.length → bindArgs (PySem.W.fnOf x x (defArgs st) (defBody st) (defScope st) .none kV doc pm an cdv ct) ⟨us, []⟩ = pure (ps.zip us)) : Dn K mg x st ps :=
  ⟨f, _, fun_mk l c k, PySem.W.mg_of X G a, (fun_mk l c k).binds hb⟩
end CB
namespace L17
open PySem PySem.Spec PyProof.Rows L2 CB
def top (i : Nat) : Stmt := PySem.Challenge.pw_classledger_k17_whole_reduced_forms_list.main.body.getD i (.Pass ⟨0, 0, 0, 0⟩)
structure Bl (mg : Str → Option Value) : Prop where
  abs : mg "abs" = none
  int : mg "int" = none
  bool : mg "bool" = none
  str : mg "str" = none
  tuple : mg "tuple" = none
  max : mg "max" = none
  range : mg "range" = none
  sorted : mg "sorted" = none
  isinstance : mg "isinstance" = none
  len : mg "len" = none
  gcd : mg "gcd" = some (.builtin "math.gcd")
  isqrt : mg "isqrt" = some (.builtin "math.isqrt")
  c_HALVED_BITS : ∃ t, mg "HALVED_BITS" = some (.int 32 t)
  c_LARGEST : ∃ t, mg "LARGEST" = some (.int 1000000 t)
local macro_rules | `(tactic| walk_at "rd") => `(tactic| simp only [CB.rd_var, CB.rd_C, CB.rd_op, CB.rd_un, CB.rd_I, CB.rd_I0, CB.rd_U, CB.rd_Eq, CB.rd_Ne, CB.rd_test, CB.rd_B, CB.rd_and, CB.rd_or, CB.rd_not, CB.rd_andV, CB.rd_orV, CB.rd_notV, CB.rd_if, CB.rd_chain, CB.rd_chain3,
  CB.rd_next, CB.rd_seq, CB.rd_drop, CB.rd_ret, CB.rd_retN, CB.rd_break, CB.rd_cont, CB.rd_ifS, CB.rd_asg, CB.rd_name, CB.rd_gsub, CB.rd_gtup, CB.rd_gcons, CB.rd_gnil, CB.rd_par, CB.rd_aug, CB.rd_ipI, CB.rd_nil, CB.rd_cons, CB.rd_tup, CB.rd_lst, CB.rd_CB, CB.rd_call, CB.rd_callS, CB.rd_ixL, CB.rd_ixT, CB.rd_setL, CB.rd_isqrt, CB.rd_sum, CB.rd_append, CB.rd_forL, CB.rd_forT, CB.rd_forR1, CB.rd_forR2, CB.rd_forR3, CB.rd_lcL, CB.rd_lcT, CB.rd_lcR1, CB.rd_lcR2, CB.rd_yes, CB.rd_sl, CB.rd_noPart, CB.rd_part, CB.rd_slL, CB.rd_wipe0, CB.rd_rep, CB.rd_tupOf, CB.rd_lenS, CB.rd_gcd, CB.rd_wipe1, CB.rd_sorted3,
  L2.start, List.map_cons, List.map_nil, List.length_cons, List.length_nil, Nat.reduceAdd, Nat.reduceSub, List.replicate_succ, List.replicate_zero,
  V.int.injEq, V.ref.injEq, V.bl.injEq, V.str.injEq, Option.some.injEq, List.cons.injEq, exists_and_left, exists_eq_left', exists_eq_left, reduceCtorEq, false_and, and_false, or_false, false_or, exists_false, exists_const, and_assoc, true_and, and_true,
  CB.scal_int, CB.scal_str, CB.dec_ii, CB.ite_dec, CB.ite_ndec, List.getElem?_cons_zero, List.getElem?_cons_succ, List.set_cons_zero, List.set_cons_succ, List.append_nil, List.cons_append, List.nil_append, if_true, if_false, Bool.false_eq_true, Bool.not_true, Bool.not_false, CB.K_nox, CB.K_cxOf, eq_self])
local macro_rules | `(tactic| walk_at "rs") => `(tactic| simp only [CB.rd_var, CB.rd_C, CB.rd_op, CB.rd_un, CB.rd_I, CB.rd_I0, CB.rd_U, CB.rd_Eq, CB.rd_Ne, CB.rd_test, CB.rd_B, CB.rd_and, CB.rd_or, CB.rd_not, CB.rd_andV, CB.rd_orV, CB.rd_notV, CB.rd_if, CB.rd_chain, CB.rd_chain3,
  CB.rd_next, CB.rd_drop, CB.rd_ret, CB.rd_retN, CB.rd_break, CB.rd_cont, CB.rd_ifS, CB.rd_asg, CB.rd_name, CB.rd_gsub, CB.rd_gtup, CB.rd_gcons, CB.rd_gnil, CB.rd_par, CB.rd_aug, CB.rd_ipI, CB.rd_nil, CB.rd_cons, CB.rd_tup, CB.rd_lst, CB.rd_CB, CB.rd_call, CB.rd_callS, CB.rd_ixL, CB.rd_ixT, CB.rd_setL, CB.rd_isqrt, CB.rd_sum, CB.rd_append, CB.rd_forL, CB.rd_forT, CB.rd_forR1, CB.rd_forR2, CB.rd_forR3, CB.rd_lcL, CB.rd_lcT, CB.rd_lcR1, CB.rd_lcR2, CB.rd_yes, CB.rd_sl, CB.rd_noPart, CB.rd_part, CB.rd_slL, CB.rd_wipe0, CB.rd_rep, CB.rd_tupOf, CB.rd_lenS, CB.rd_gcd, CB.rd_wipe1, CB.rd_sorted3,
  L2.start, List.map_cons, List.map_nil, List.length_cons, List.length_nil, Nat.reduceAdd, Nat.reduceSub, List.replicate_succ, List.replicate_zero,
  V.int.injEq, V.ref.injEq, V.bl.injEq, V.str.injEq, Option.some.injEq, List.cons.injEq, exists_and_left, exists_eq_left', exists_eq_left, reduceCtorEq, false_and, and_false, or_false, false_or, exists_false, exists_const, and_assoc, true_and, and_true,
  CB.scal_int, CB.scal_str, CB.dec_ii, CB.ite_dec, CB.ite_ndec, List.getElem?_cons_zero, List.getElem?_cons_succ, List.set_cons_zero, List.set_cons_succ, List.append_nil, List.cons_append, List.nil_append, if_true, if_false, Bool.false_eq_true, Bool.not_true, Bool.not_false, CB.K_nox, CB.K_cxOf, eq_self])


section
variable {P : Program} {w : World} {K : PySem.W.Frag} {mg : Str → Option Value} {base : Heap}
/-! ### the draws -/
abbrev s__law_take : Stmt := top 26
theorem sc__law_take : FnScope ["state", "m", "value"] ["state", "m"] (defScope s__law_take) := ⟨rfl, rfl, rfl, by decide +kernel, rfl, by decide +kernel, by decide +kernel⟩

def spTake : Sp := fun vs H Q _ => ∃ (a : Addr) (x y m : Int), vs = [.ref a, .int m] ∧ H a = some (.lst [.int x, .int y]) ∧ 0 < m ∧ m.natAbs.log2 < 9000 ∧
  ∀ v x' y' : Int, 0 ≤ v → v < m → Q (.int v) (upd H a (.lst [.int x', .int y']))
theorem cal_take (D : Dn K mg "_law_take" s__law_take ["state", "m"]) (B : Bl mg) : Cal P w K mg base "_law_take" 1 ["state", "m"] spTake := by
  refine D.cal sc__law_take (fun vs H Q E h => ?_) (fun f cdv A outer s H vs Q E hr h => ?_)
  · obtain ⟨a, x, y, m, rfl, _⟩ := h
    rfl
  · obtain ⟨a, x, y, m, rfl, ha, hm, hz, q⟩ := h
    refine ⟨_, (pss_cons (ps_if (pt_cmpR op_gt (pe_ix ix_list (pv 0) pe_int (fun _ _ => rfl)) pe_int (nomark _)) (pss_cons (ps_set (i := 2) sc__law_take.nd rfl (Or.inl rfl) (pe_op op_mod (pe_callTy call_int1 rfl B.int boot_int (pa_cons (pe_ix ix_list (pv 0) pe_int (fun _ _ => rfl)) pa_nil)) (pv 1)))
  (pss_cons (ps_asg (pe_op op_fdivW (pe_ix ix_list (pv 0) pe_int (fun _ _ => rfl)) (pv 1)) (pg_sub (pv 0) pe_int set_list))
  (pss_one (ps_ret (pv 2))))) pss_nil)
  (pss_cons (ps_asg (pe_op op_mod (pe_callTy call_int1 rfl B.int boot_int (pa_cons (pe_op op_add (pe_op op_mulI (pe_ix ix_list (pv 0) pe_int (fun _ _ => rfl)) pe_int) pe_int) pa_nil)) pe_int) (pg_sub (pv 0) pe_int set_list))
  (pss_one (ps_ret (pe_op op_mod (pe_callTy call_int1 rfl B.int boot_int (pa_cons (pe_op op_fdivW (pe_ix ix_list (pv 0) pe_int (fun _ _ => rfl)) pe_int) pa_nil)) (pv 1)))))), ?_⟩
    walk_at "rd"
    refine ⟨_, SqL.of ha, _, rfl, _, rfl, ite2 (fun h => ?_) (fun h => ?_)⟩
    · refine ⟨_, SqL.of ha, _, rfl, .inl ⟨_, rfl, hm, _, SqL.of ha, _, rfl, _, rfl, ⟨hm, hz⟩, _, ha, _, rfl, ?_⟩⟩
      exact q _ _ _ (Int.emod_nonneg _ (by omega)) (Int.emod_lt_of_pos _ hm)
    · refine ⟨_, SqL.of ha, _, rfl, _, rfl, mulR (by decide), by decide, _, ha, _, rfl, _, SqL.of upd_same, _, rfl, _, rfl, ⟨by decide, by decide +kernel⟩, hm, ?_⟩
      exact q _ _ _ (Int.emod_nonneg _ (by omega)) (Int.emod_lt_of_pos _ hm)
abbrev s__law_state : Stmt := top 25
theorem sc__law_state : FnScope ["script", "seed", "total", "cell"] ["script"] (defScope s__law_state) := ⟨rfl, rfl, rfl, by decide +kernel, rfl, by decide +kernel, by decide +kernel⟩

def spState (K : PySem.W.Frag) : Sp := fun vs H Q _ => ∃ (a : Addr) (ns : List Int), vs = [.ref a] ∧ SqL K H a (ns.map V.int) ∧ ns.length ≤ 63 ∧
  ∀ (p : Addr) (x y : Int) (H' : Hp), Same H H' → H p = none → H' p = some (.lst [.int x, .int y]) → Q (.ref p) H'
theorem cutV63 {ns : List Int} (h : ns.length ≤ 63) : cutV (ns.map V.int) none (some 63) = ns.map V.int := by
  unfold cutV
  rw [HT.sIx_none, show HT.sIx (ns.map V.int).length (ns.map V.int).length (some 63) = min 63 (ns.map V.int).length from HT.sIx_nat _ _ 63, List.length_map, List.drop_zero]
  rw [show min 63 ns.length - 0 = (ns.map V.int).length by rw [List.length_map]; omega, List.take_length]
theorem cal_state (D : Dn K mg "_law_state" s__law_state ["script"]) (B : Bl mg) : Cal P w K mg base "_law_state" 1 ["script"] (spState K) := by
  refine D.cal sc__law_state (fun vs H Q E h => ?_) (fun f cdv A outer s H vs Q E hr h => ?_)
  · obtain ⟨a, ns, rfl, _⟩ := h
    rfl
  · obtain ⟨a, ns, rfl, hS, hl, q⟩ := h
    refine ⟨_, (pss_cons (ps_set (i := 1) sc__law_state.nd rfl (Or.inl rfl) pe_int)
  (pss_cons (ps_set (i := 2) sc__law_state.nd rfl (Or.inl rfl) pe_int)
  (pss_cons (ps_for PassesOwn.never rfl (pi_list (pe_slice sl_list (pv 0) po_none (po_some pe_int))) (pg_name (i := 3) sc__law_state.nd rfl (Or.inl rfl)) (pss_cons (ps_set (i := 1) sc__law_state.nd rfl (Or.inl rfl) (pe_op op_add (pe_op op_mulI (pv 1) pe_int) (pe_callB call_abs rfl B.abs (by decide +kernel) (pa_cons (pv 3) pa_nil))))
  (pss_one (ps_set (i := 2) sc__law_state.nd rfl (Or.inl rfl) (pe_op op_mod (pe_callTy call_int1 rfl B.int boot_int (pa_cons (pe_op op_add (pe_op op_mulI (pv 2) pe_int) (pv 3)) pa_nil)) pe_int)))))
  (pss_one (ps_ret (pe_lst (pa_cons (pv 1) (pa_cons (pv 2) pa_nil)))))))), ?_⟩
    walk_at "rd"
    refine ⟨_, hS, fun c nc => ?_⟩
    rw [cutV63 hl]
    have hc : SqL K (upd H c (.lst (ns.map V.int))) c (ns.map V.int) := SqL.of upd_same
    refine ⟨⟨_, hc⟩, ForL.mk (xs := ns.map V.int) (fun _ σ H' => ∃ x y z, σ = [some (.ref a), some (.int x), some (.int y), z] ∧ H' = upd H c (.lst (ns.map V.int))) ⟨_, _, _, rfl, rfl⟩ ?_ ?_ ?_⟩
    · rintro i σ H' _ ⟨x, y, z, rfl, rfl⟩
      exact hc
    · rintro i v σ H' hv ⟨x, y, z, rfl, rfl⟩
      rw [List.getElem?_map] at hv
      obtain ⟨n, _, rfl⟩ := Option.map_eq_some_iff.mp hv
      walk_at "rd"
      exact ⟨mulR (by decide), mulR (by decide), by decide, _, rfl⟩
    · rintro σ H' ⟨x, y, z, rfl, rfl⟩
      walk_at "rd"
      refine ⟨by decide, fun p np => q p x y _ ((same_upd nc).trans (same_upd np)) ((same_upd nc).free np) upd_same⟩
/-! ### kinds of values -/
def kinds : List String := ["int", "bool", "NoneType", "str", "tuple", "list"]
theorem kit_k {T c : String} (hT : T ∈ kinds) (hc : c ∈ ["int", "bool", "str", "tuple"]) : kitB T c = some (T == c || (T == "bool" && c == "int")) := by
  unfold kinds at hT
  simp only [List.mem_cons, List.not_mem_nil, or_false] at hT hc
  rcases hT with rfl | rfl | rfl | rfl | rfl | rfl <;> rcases hc with rfl | rfl | rfl | rfl <;> decide +kernel
abbrev s_is_integer : Stmt := top 7
theorem sc_is_integer : FnScope ["value"] ["value"] (defScope s_is_integer) := ⟨rfl, rfl, rfl, by decide +kernel, rfl, by decide +kernel, by decide +kernel⟩

def spInt (K : PySem.W.Frag) : Sp := fun vs H Q _ => ∃ (v : V) (T : String), vs = [v] ∧ TyX K H v (.type T) ∧ T ∈ kinds ∧ Q (.bl (T == "int")) H
theorem cal_is_integer (D : Dn K mg "is_integer" s_is_integer ["value"]) (B : Bl mg) : Cal P w K mg base "is_integer" 1 ["value"] (spInt K) := by
  refine D.cal sc_is_integer (fun vs H Q E h => ?_) (fun f cdv A outer s H vs Q E hr h => ?_)
  · obtain ⟨v, T, rfl, _⟩ := h
    rfl
  · obtain ⟨v, T, rfl, ty, hT, q⟩ := h
    refine ⟨_, (pss_one (ps_ret (pe_and (pe_callB call_isi rfl B.isinstance (by decide +kernel) (pa_cons (pv 0) (pa_cons (pe_bltn (v := .ty "int") rfl B.int boot_int rfl) pa_nil))) (pe_one (pe_not (pe_callB call_isi rfl B.isinstance (by decide +kernel) (pa_cons (pv 0) (pa_cons (pe_bltn (v := .ty "bool") rfl B.bool boot_bool rfl) pa_nil)))))))), ?_⟩
    walk_at "rd"
    refine isi_mk ty (kit_k hT (by simp)) ⟨_, rfl, ite2 (fun h => ?_) (fun h => ?_)⟩
    · refine isi_mk ty (kit_k hT (by simp)) ⟨_, rfl, ?_⟩
      rw [show (!(T == "bool" || (T == "bool" && "bool" == "int"))) = (T == "int") from ?_]
      · exact q
      · unfold kinds at hT
        simp only [List.mem_cons, List.not_mem_nil, or_false] at hT
        rcases hT with rfl | rfl | rfl | rfl | rfl | rfl <;> revert h <;> decide +kernel
    · rw [show false = (T == "int") from ?_]
      · exact q
      · unfold kinds at hT
        simp only [List.mem_cons, List.not_mem_nil, or_false] at hT
        rcases hT with rfl | rfl | rfl | rfl | rfl | rfl <;> revert h <;> decide +kernel
abbrev s__law_whole : Stmt := top 28
theorem sc__law_whole : FnScope ["value"] ["value"] (defScope s__law_whole) := ⟨rfl, rfl, rfl, by decide +kernel, rfl, by decide +kernel, by decide +kernel⟩

theorem cal_whole (D : Dn K mg "_law_whole" s__law_whole ["value"]) (B : Bl mg) : Cal P w K mg base "_law_whole" 1 ["value"] (spInt K) := by
  refine D.cal sc__law_whole (fun vs H Q E h => ?_) (fun f cdv A outer s H vs Q E hr h => ?_)
  · obtain ⟨v, T, rfl, _⟩ := h
    rfl
  · obtain ⟨v, T, rfl, ty, hT, q⟩ := h
    refine ⟨_, (pss_one (ps_ret (pe_and (pe_callB call_isi rfl B.isinstance (by decide +kernel) (pa_cons (pv 0) (pa_cons (pe_bltn (v := .ty "int") rfl B.int boot_int rfl) pa_nil))) (pe_one (pe_not (pe_callB call_isi rfl B.isinstance (by decide +kernel) (pa_cons (pv 0) (pa_cons (pe_bltn (v := .ty "bool") rfl B.bool boot_bool rfl) pa_nil)))))))), ?_⟩
    walk_at "rd"
    refine isi_mk ty (kit_k hT (by simp)) ⟨_, rfl, ite2 (fun h => ?_) (fun h => ?_)⟩
    · refine isi_mk ty (kit_k hT (by simp)) ⟨_, rfl, ?_⟩
      rw [show (!(T == "bool" || (T == "bool" && "bool" == "int"))) = (T == "int") from ?_]
      · exact q
      · unfold kinds at hT
        simp only [List.mem_cons, List.not_mem_nil, or_false] at hT
        rcases hT with rfl | rfl | rfl | rfl | rfl | rfl <;> revert h <;> decide +kernel
    · rw [show false = (T == "int") from ?_]
      · exact q
      · unfold kinds at hT
        simp only [List.mem_cons, List.not_mem_nil, or_false] at hT
        rcases hT with rfl | rfl | rfl | rfl | rfl | rfl <;> revert h <;> decide +kernel
end

/-! ### whole roots -/
def isq (n : Int) : Int := ((Float64.isqrt n.toNat : Nat) : Int)
theorem isq_nn (n : Int) : 0 ≤ isq n := Int.natCast_nonneg _
theorem isq_le {n : Int} (h : 0 ≤ n) : isq n * isq n ≤ n := by
  have a := (isqrt_spec n.toNat).1
  have b : ((Float64.isqrt n.toNat * Float64.isqrt n.toNat : Nat) : Int) ≤ ((n.toNat : Nat) : Int) := Int.ofNat_le.mpr a
  rw [Int.natCast_mul] at b
  unfold isq
  omega
theorem isq_lt {n : Int} (h : 0 ≤ n) : n < (isq n + 1) * (isq n + 1) := by
  have a := (isqrt_spec n.toNat).2
  have b : ((n.toNat : Nat) : Int) < (((Float64.isqrt n.toNat + 1) * (Float64.isqrt n.toNat + 1) : Nat) : Int) := Int.ofNat_lt.mpr a
  rw [Int.natCast_mul, Int.natCast_add] at b
  unfold isq
  have e : ((1 : Nat) : Int) = 1 := rfl
  rw [e] at b
  omega
theorem sq_lt {r s : Int} (hr : 0 ≤ r) (h : r * r < (s + 1) * (s + 1)) (hs : 0 ≤ s) : r ≤ s := by
  rcases Int.lt_or_le s r with q | q
  · have a : (s + 1) * (s + 1) ≤ r * r := Int.mul_le_mul (by omega) (by omega) (by omega) hr
    omega
  · exact q
theorem isq_uniq {n r : Int} (hr : 0 ≤ r) (h1 : r * r ≤ n) (h2 : n < (r + 1) * (r + 1)) : isq n = r := by
  have hn : 0 ≤ n := Int.le_trans (Int.mul_nonneg hr hr) h1
  have a := sq_lt hr (Int.lt_of_le_of_lt h1 (isq_lt hn)) (isq_nn n)
  have b := sq_lt (isq_nn n) (Int.lt_of_le_of_lt (isq_le hn) h2) hr
  omega
theorem isq_iff {n a : Int} (hn : 0 ≤ n) (ha : 0 ≤ a) : a * a ≤ n ↔ a ≤ isq n := by
  refine ⟨fun h => sq_lt ha (Int.lt_of_le_of_lt h (isq_lt hn)) (isq_nn n), fun h => ?_⟩
  exact Int.le_trans (Int.mul_le_mul h h ha (isq_nn n)) (isq_le hn)
theorem isq_self {n : Int} (h0 : 0 ≤ n) (h : n < 2) : isq n = n := by
  have e : n = 0 ∨ n = 1 := by omega
  rcases e with rfl | rfl
  · exact isq_uniq (by omega) (by omega) (by omega)
  · exact isq_uniq (by omega) (by omega) (by omega)
theorem isq_bd {n c : Int} (hn : 0 ≤ n) (hc : 0 ≤ c) (h : n < (c + 1) * (c + 1)) : isq n ≤ c := sq_lt (isq_nn n) (Int.lt_of_le_of_lt (isq_le hn) h) hc
/-- a bound that omega doesn't read -/
def BIG : Int := 2 ^ 3000
theorem BIG_pos : 1000000000000 < BIG := by decide +kernel
theorem BIG_big : BIG < 2 ^ 13000 := by decide +kernel
theorem bigAbs {i : Int} (h1 : -(16 * BIG) < i) (h2 : i < 16 * BIG) : i.natAbs < 2 ^ 3004 := by
  have e : (16 * BIG : Int) = ((2 ^ 3004 : Nat) : Int) := by decide +kernel
  rw [e] at h1 h2
  omega
theorem mulBig {i j : Int} (h1 : -(16 * BIG) < i) (h2 : i < 16 * BIG) (h3 : -(16 * BIG) < j) (h4 : j < 16 * BIG) : IntMulOk i j :=
  (wide_mul (bigAbs h1 h2) (bigAbs h3 h4) (by decide) (by decide) (by decide)).ok
theorem low_le {a n : Int} (h0 : 0 ≤ a) (h : a * a ≤ n) : a ≤ n := by
  rcases Int.lt_or_le 0 a with q | q
  · have := Int.mul_le_mul (show 1 ≤ a by omega) (Int.le_refl a) h0 h0
    omega
  · have e : a = 0 := by omega
    rw [e] at h
    omega
section
variable {P : Program} {w : World} {K : PySem.W.Frag} {mg : Str → Option Value} {base : Heap}
abbrev s_root : Stmt := top 9
theorem sc_root : FnScope ["n", "k", "bits", "half"] ["n", "k"] (defScope s_root) := ⟨rfl, rfl, rfl, by decide +kernel, rfl, by decide +kernel, by decide +kernel⟩

def spRoot : Sp := fun vs H Q _ => ∃ n : Int, vs = [.int n, .int 2] ∧ 0 ≤ n ∧ n < BIG ∧ Q (.int (isq n)) H
theorem cal_root (D : Dn K mg "root" s_root ["n", "k"]) (B : Bl mg) : Cal P w K mg base "root" 1 ["n", "k"] spRoot := by
  refine D.cal sc_root (fun vs H Q E h => ?_) (fun f cdv A outer s H vs Q E hr h => ?_)
  · obtain ⟨n, rfl, _⟩ := h
    rfl
  · obtain ⟨n, rfl, h0, h1, q⟩ := h
    refine ⟨_, (pss_cons (ps_if (PW.pt (pw_or (pt_cmpR op_eq (pv 1) pe_int (nomark _)) (pw_or1 (pt_cmpR op_lt (pv 0) pe_int (nomark _))))) (pss_one (ps_ret (pv 0))) pss_nil)
  (pss_cons (ps_if (pt_cmpR op_eq (pv 1) pe_int (nomark _)) (pss_one (ps_ret (pe_callBfun cr_isqrt rfl B.isqrt (pa_cons (pv 0) pa_nil)))) pss_nil)
  pss_never)), ?_⟩
    walk_at "rd"
    rw [if_neg (by decide)]
    refine ite2 (fun h => ?_) (fun h => ⟨h0, Int.lt_trans h1 BIG_big, q⟩)
    rw [isq_self h0 h] at q
    exact q
abbrev s__law_root : Stmt := top 31
theorem sc__law_root : FnScope ["n", "low", "step"] ["n"] (defScope s__law_root) := ⟨rfl, rfl, rfl, by decide +kernel, rfl, by decide +kernel, by decide +kernel⟩

def spLawRoot : Sp := fun vs H Q _ => ∃ n : Int, vs = [.int n] ∧ 0 ≤ n ∧ n < BIG ∧ Q (.int (isq n)) H
theorem half_pow {j : Nat} : (2 ^ (j + 1) : Int) / 2 = 2 ^ j := by
  rw [Int.pow_succ, Int.mul_ediv_cancel _ (by decide)]
theorem cal_law_root (D : Dn K mg "_law_root" s__law_root ["n"]) (B : Bl mg) : Cal P w K mg base "_law_root" 1 ["n"] spLawRoot := by
  refine D.cal sc__law_root (fun vs H Q E h => ?_) (fun f cdv A outer s H vs Q E hr h => ?_)
  · obtain ⟨n, rfl, _⟩ := h
    rfl
  · obtain ⟨n, rfl, h0, h1, q⟩ := h
    have hB := BIG_pos
    refine ⟨_, (pss_cons (ps_if (pt_cmpR op_lt (pv 0) pe_int (nomark _)) (pss_one (ps_ret (pv 0))) pss_nil)
  (pss_cons (ps_set (i := 1) sc__law_root.nd rfl (Or.inl rfl) pe_int)
  (pss_cons (ps_while PassesOwn.never (pt_cmpR op_le (pe_op op_mulI (pv 1) (pv 1)) (pv 0) (nomark _)) (pss_one (ps_set (i := 1) sc__law_root.nd rfl (Or.inl rfl) (pe_op op_mulI pe_int (pv 1)))))
  (pss_cons (ps_set (i := 2) sc__law_root.nd rfl (Or.inl rfl) (pv 1))
  (pss_cons (ps_set (i := 1) sc__law_root.nd rfl (Or.inl rfl) pe_int)
  (pss_cons (ps_while PassesOwn.never (pt_cmpR op_gt (pv 2) pe_int (nomark _)) (pss_cons (ps_if (pt_cmpR op_le (pe_op op_mulI (pe_op op_add (pv 1) (pv 2)) (pe_op op_add (pv 1) (pv 2))) (pv 0) (nomark _)) (pss_one (ps_set (i := 1) sc__law_root.nd rfl (Or.inl rfl) (pe_op op_add (pv 1) (pv 2)))) pss_nil)
  (pss_one (ps_set (i := 2) sc__law_root.nd rfl (Or.inl rfl) (pe_op op_fdivW (pv 2) pe_int)))))
  (pss_one (ps_ret (pv 1))))))))), ?_⟩
    walk_at "rd"
    refine ite2 (fun h => ?_) (fun hn2 => ?_)
    · rw [isq_self h0 h] at q
      exact q
    refine while_w (fun σ H' => ∃ (low : Int) (j : Nat), σ = [some (.int n), some (.int low), none] ∧ H' = H ∧ low = 2 ^ j ∧ low ≤ 2 * n)
      (fun σ _ => match σ with | [_, some (.int low), _] => (2 * n - low).toNat | _ => 0) ⟨1, 0, rfl, rfl, rfl, by omega⟩ ?_
    rintro σ H' ⟨low, j, rfl, rfl, hl, hlb⟩ N hN
    have hpos : 0 < low := by rw [hl]; exact Int.pow_pos (by decide)
    have mo : IntMulOk low low := mulBig (by omega) (by omega) (by omega) (by omega)
    refine ⟨decide (low * low ≤ n), fun Q' q' => ?_, fun hb => ?_, fun hb => ?_⟩
    · walk_at "rd"
      exact ⟨mo, q'⟩
    · have hle := of_decide_eq_true hb
      have hln := low_le (by omega) hle
      walk_at "rd"
      refine ⟨mulL (by decide), hN _ _ ⟨2 * low, j + 1, rfl, rfl, by rw [hl, Int.pow_succ]; omega, by omega⟩ ?_⟩
      show (2 * n - 2 * low).toNat < (2 * n - low).toNat
      omega
    · have hgt : n < low * low := by
        have := of_decide_eq_false hb
        omega
      walk_at "rd"
      refine while_w (fun σ H₁ => ∃ (lo st : Int), σ = [some (.int n), some (.int lo), some (.int st)] ∧ H₁ = H' ∧ 0 ≤ lo ∧ lo * lo ≤ n ∧ st ≤ 2 * n ∧
          ((∃ i : Nat, st = 2 ^ i ∧ n < (lo + 2 * st) * (lo + 2 * st)) ∨ (st = 0 ∧ n < (lo + 1) * (lo + 1))))
        (fun σ _ => match σ with | [_, _, some (.int st)] => st.toNat | _ => 0) ⟨0, low, rfl, rfl, by omega, by omega, hlb, .inl ⟨j, hl, ?_⟩⟩ ?_
      · have : low * low ≤ (0 + 2 * low) * (0 + 2 * low) := Int.mul_le_mul (by omega) (by omega) (by omega) (by omega)
        omega
      rintro σ H₁ ⟨lo, st, rfl, rfl, hlo, hll, hst, hi⟩ N hN
      have hlon := low_le hlo hll
      refine ⟨decide (0 < st), fun Q' q' => ?_, fun hb => ?_, fun hb => ?_⟩
      · walk_at "rd"
        exact q'
      · have hp := of_decide_eq_true hb
        rcases hi with ⟨i, rfl, hu⟩ | ⟨e, _⟩
        · have half : ∀ lo' : Int, 0 ≤ lo' → lo' * lo' ≤ n → n < (lo' + 2 ^ i) * (lo' + 2 ^ i) → N [some (V.int n), some (V.int lo'), some (V.int (2 ^ i / 2))] H₁ := by
            intro lo' g1 g2 g3
            refine hN _ _ ⟨lo', 2 ^ i / 2, rfl, rfl, g1, g2, by omega, ?_⟩ (by show (2 ^ i / 2 : Int).toNat < (2 ^ i : Int).toNat; omega)
            cases i with
            | zero => exact .inr ⟨by decide, g3⟩
            | succ i =>
              refine .inl ⟨i, half_pow, ?_⟩
              rw [half_pow]
              rw [Int.pow_succ] at g3
              rw [show 2 * (2 : Int) ^ i = 2 ^ i * 2 by omega]
              exact g3
          have mo2 : IntMulOk (lo + 2 ^ i) (lo + 2 ^ i) := mulBig (by omega) (by omega) (by omega) (by omega)
          walk_at "rd"
          refine ⟨mo2, ite2 (fun c => ⟨⟨by decide, by decide +kernel⟩, ?_⟩) (fun c => ⟨⟨by decide, by decide +kernel⟩, ?_⟩)⟩
          · refine half (lo + 2 ^ i) (by omega) c ?_
            rw [show lo + 2 ^ i + 2 ^ i = lo + 2 * 2 ^ i by omega]
            exact hu
          · exact half lo hlo hll (by omega)
        · omega
      · have hp := of_decide_eq_false hb
        walk_at "rd"
        rcases hi with ⟨i, rfl, hu⟩ | ⟨e, hu⟩
        · exact absurd (Int.pow_pos (by decide) : (0 : Int) < 2 ^ i) hp
        · rw [isq_uniq hlo hll hu] at q
          exact q
end

/-! ### reduced forms, listed -/
def mx1 (b : Int) : Int := if 1 > b then 1 else b
def cell (b m a : Int) : List T3 := if m % a = 0 then (a, b, m / a) :: (if 0 < b ∧ b < a ∧ a < m / a then [(a, -b, m / a)] else []) else []
def rowF (b m lo : Int) (k : Nat) : List T3 := (List.range k).flatMap fun (i : Nat) => cell b m (lo + (i : Int))
theorem rowF_succ {b m lo : Int} {k : Nat} : rowF b m lo (k + 1) = rowF b m lo k ++ cell b m (lo + k) := by
  unfold rowF
  rw [List.range_succ, List.flatMap_append, List.flatMap_singleton]
def mB (n b : Int) : Int := (b * b + n) / 4
def kB (n b : Int) : Nat := (isq (mB n b) + 1 - mx1 b).toNat
def rowN (n b : Int) : List T3 := rowF b (mB n b) (mx1 b) (kB n b)
def bAt (n : Int) (i : Nat) : Int := n % 2 + (i : Nat) * 2
def formsF (n : Int) (k : Nat) : List T3 := (List.range k).flatMap fun (i : Nat) => rowN n (bAt n i)
theorem formsF_succ {n : Int} {k : Nat} : formsF n (k + 1) = formsF n k ++ rowN n (bAt n k) := by
  unfold formsF
  rw [List.range_succ, List.flatMap_append, List.flatMap_singleton]
def cnt (n : Int) : Nat := (Builtin.Range.rangeSize (n % 2) (isq (n / 3) + 1) 2).toNat
def forms (n : Int) : List T3 := formsF n (cnt n)
theorem cell_len (b m a : Int) : (cell b m a).length ≤ 2 := by
  unfold cell
  split
  · split <;> simp
  · simp
theorem rowF_len (b m lo : Int) : ∀ k : Nat, (rowF b m lo k).length ≤ 2 * k
  | 0 => by simp [rowF]
  | k + 1 => by
    rw [rowF_succ, List.length_append]
    have a := rowF_len b m lo k
    have c := cell_len b m (lo + k)
    omega
theorem rsize2 {lo hi : Int} : (Builtin.Range.rangeSize lo hi 2).toNat = ((hi - lo + 1) / 2).toNat := by
  unfold Builtin.Range.rangeSize
  rw [if_pos (by decide)]
  split <;> omega
theorem RgC2 {lo hi : Int} (h1 : 0 ≤ lo) (h2 : lo < 2) (h3 : 0 ≤ hi) (h4 : hi < 2 ^ 40) : RgC lo hi 2 (Builtin.Range.rangeSize lo hi 2).toNat := by
  refine ⟨by decide, by decide, ?_, ?_⟩
  · unfold Builtin.Range.small Builtin.Range.rangeSize
    simp only [Builtin.Range.rangeFitsLong, Bool.and_eq_true, Bool.or_eq_true, decide_eq_true_eq, beq_iff_eq, show (2 : Int) > 0 by decide, if_true]
    split <;> omega
  · unfold Builtin.Range.rangeSize
    rw [if_pos (by decide)]
    split <;> omega
structure Sm (n : Int) : Prop where
  pos : 0 < n
  le : n ≤ 1000000
theorem Sm.r3 {n : Int} (h : Sm n) : 0 ≤ n / 3 ∧ isq (n / 3) ≤ 577 := by
  have := h.pos
  have := h.le
  exact ⟨by omega, isq_bd (by omega) (by decide) (by omega)⟩
theorem Sm.b {n : Int} (h : Sm n) {i : Nat} (hi : i < cnt n) : 0 ≤ bAt n i ∧ bAt n i ≤ isq (n / 3) ∧ bAt n i ≤ 577 ∧ i ≤ 290 := by
  have a := h.r3
  have c := isq_nn (n / 3)
  unfold cnt at hi
  rw [rsize2] at hi
  unfold bAt
  omega
theorem Sm.cnt {n : Int} (h : Sm n) : cnt n ≤ 290 := by
  have a := h.r3
  have c := isq_nn (n / 3)
  unfold L17.cnt
  rw [rsize2]
  omega
theorem Sm.m {n : Int} (h : Sm n) {b : Int} (h0 : 0 ≤ b) (h1 : b ≤ 577) : 0 ≤ mB n b ∧ mB n b ≤ 333300 ∧ isq (mB n b) ≤ 577 := by
  have a := h.pos
  have c := h.le
  have d : b * b ≤ 577 * 577 := Int.mul_le_mul h1 h1 h0 (by decide)
  have e : 0 ≤ b * b := Int.mul_nonneg h0 h0
  have m1 : 0 ≤ mB n b := by unfold mB; omega
  have m2 : mB n b ≤ 333300 := by unfold mB; omega
  exact ⟨m1, m2, isq_bd m1 (by decide) (by omega)⟩
theorem mx1_ge (b : Int) : 1 ≤ mx1 b ∧ b ≤ mx1 b ∧ (mx1 b = 1 ∨ mx1 b = b) := by
  unfold mx1
  split <;> omega
theorem Sm.k {n : Int} (h : Sm n) {b : Int} (h0 : 0 ≤ b) (h1 : b ≤ 577) : kB n b ≤ 577 := by
  have a := (h.m h0 h1).2.2
  have c := mx1_ge b
  unfold kB
  omega
theorem Sm.row {n : Int} (h : Sm n) {b : Int} (h0 : 0 ≤ b) (h1 : b ≤ 577) : (rowN n b).length ≤ 1200 := by
  have a := rowF_len b (mB n b) (mx1 b) (kB n b)
  have c := h.k h0 h1
  unfold rowN
  omega
theorem Sm.len {n : Int} (h : Sm n) : ∀ k : Nat, k ≤ L17.cnt n → (formsF n k).length ≤ 1200 * k
  | 0, _ => by simp [formsF]
  | k + 1, hk => by
    rw [formsF_succ, List.length_append]
    have a := h.len k (by omega)
    have b := h.b (i := k) (by omega)
    have c := h.row b.1 b.2.2.1
    omega
theorem big1 {i : Int} (h0 : 0 ≤ i) (h : i ≤ 1000000) : i < BIG := by
  have := BIG_pos
  omega
theorem small_size {n : Nat} (h : n ≤ 10000000) : n < sizeLine := by rw [PySem.sizeLine_eq]; omega
/-! ### heaps that grow -/
/-! ### the divisors in a range -/
def dv (m lo : Int) (k : Nat) : List Int := ((List.range k).map fun (i : Nat) => lo + (i : Int)).filter fun a => decide (m % a = 0)
theorem dv_yes {m lo : Int} {k : Nat} (h : m % (lo + k) = 0) : dv m lo (k + 1) = dv m lo k ++ [lo + k] := by
  unfold dv
  rw [List.range_succ, List.map_append, List.filter_append, List.map_singleton, List.filter_cons_of_pos (by simpa using h), List.filter_nil]
theorem dv_no {m lo : Int} {k : Nat} (h : ¬ m % (lo + k) = 0) : dv m lo (k + 1) = dv m lo k := by
  unfold dv
  rw [List.range_succ, List.map_append, List.filter_append, List.map_singleton, List.filter_cons_of_neg (by simpa using h), List.filter_nil, List.append_nil]
theorem dv_row {b m lo : Int} : ∀ k : Nat, rowF b m lo k = (dv m lo k).flatMap (cell b m)
  | 0 => rfl
  | k + 1 => by
    rw [rowF_succ, dv_row k]
    by_cases h : m % (lo + k) = 0
    · rw [dv_yes h, List.flatMap_append, List.flatMap_singleton]
    · rw [dv_no h]
      unfold cell
      rw [if_neg h, List.append_nil]
theorem dv_len {m lo : Int} {k : Nat} : (dv m lo k).length ≤ k := by
  unfold dv
  refine Nat.le_trans (List.length_filter_le _ _) ?_
  rw [List.length_map, List.length_range]
  exact Nat.le_refl _
theorem dv_mem {m lo a : Int} {k : Nat} (h : a ∈ dv m lo k) : m % a = 0 ∧ lo ≤ a ∧ a < lo + k := by
  unfold dv at h
  obtain ⟨h1, h2⟩ := List.mem_filter.mp h
  obtain ⟨i, hi, rfl⟩ := List.mem_map.mp h1
  have := List.mem_range.mp hi
  exact ⟨of_decide_eq_true h2, by omega, by omega⟩
theorem divSmall {i a : Int} (h : 0 < a) (h2 : a < 2 ^ 64) : CDivW i a := wide_div (b := 64) h (by omega) (by decide) (by decide)
section
variable {P : Program} {w : World} {K : PySem.W.Frag} {mg : Str → Option Value} {base : Heap}
abbrev s__counted_forms : Stmt := top 20
theorem sc__counted_forms : FnScope ["D", "found", "b", "product", "divisors", "a", "c", "d"] ["D"] (defScope s__counted_forms) := ⟨rfl, rfl, rfl, by decide +kernel, rfl, by decide +kernel, by decide +kernel⟩

/-- a new list of n's reduced forms, sorted -/
def GotForms (H : Hp) (n : Int) (Q : VK) : Prop := ∀ (ys : List V) (us : List T3) (p : Addr) (H' : Hp), Same H H' → H p = none → H' p = some (.lst ys) → Trs H' ys us → us.Pairwise (fun p q => lexT q p = false) → us.Perm (forms n) → Q (.ref p) H'
def spCounted : Sp := fun vs H Q _ => ∃ n : Int, vs = [.int (-n)] ∧ Sm n ∧ GotForms H n Q
theorem cal_counted (D : Dn K mg "_counted_forms" s__counted_forms ["D"]) (B : Bl mg) (c_root : Cal P w K mg base "root" 1 ["n", "k"] spRoot) : Cal P w K mg base "_counted_forms" 2 ["D"] spCounted := by
  refine D.cal sc__counted_forms (fun vs H Q E h => ?_) (fun f cdv A outer s H vs Q E hr h => ?_)
  · obtain ⟨n, rfl, _⟩ := h
    rfl
  · obtain ⟨n, rfl, hS, q⟩ := h
    refine ⟨_, (pss_cons (ps_set (i := 1) sc__counted_forms.nd rfl (Or.inl rfl) (pe_lst pa_nil))
  (pss_cons (ps_for PassesOwn.never rfl (pi_range3 rfl B.range (pa_cons (pe_op op_mod (pv 0) pe_int) (pa_cons (pe_op op_add (pe_cal c_root (hr.mono (by decide)) rfl (pa_cons (pe_op op_fdivW (pe_un un_neg (pv 0)) pe_int) (pa_cons pe_int pa_nil))) pe_int) (pa_cons pe_int pa_nil)))) (pg_name (i := 2) sc__counted_forms.nd rfl (Or.inl rfl)) (pss_cons (ps_set (i := 3) sc__counted_forms.nd rfl (Or.inr rfl) (pe_op op_fdivW (pe_op op_sub (pe_op op_mulI (pv 2) (pv 2)) (pv 0)) pe_int))
  (pss_cons (ps_setLc (i := 4) (own := [("d", 7)]) rfl sc__counted_forms.nd rfl rfl (sw_true rfl rfl rfl (by decide +kernel)) (pi_range2 rfl B.range (pa_cons (pe_callB (call_max2 rfl) rfl B.max (by decide +kernel) (pa_cons (pv 2) (pa_cons pe_int pa_nil))) (pa_cons (pe_op op_add (pe_cal c_root (hr.mono (by decide)) rfl (pa_cons (pv 3) (pa_cons pe_int pa_nil))) pe_int) pa_nil))) (blkOk_by (N := ["D", "found", "b", "product", "divisors", "a", "c", "d"]) (sc := defScope s__counted_forms) (own := [("d", 7)]) (by decide +kernel)) (fun _ _ _ _ _ => (pg_name (i := 7) sc__counted_forms.nd rfl (Or.inl rfl))) (fun _ _ _ _ _ => (pts_one (pt_cmpR op_eq (pe_op op_mod (pv 3) (pv 7)) pe_int (nomark _)))) (fun _ _ _ _ _ => (pv 7)))
  (pss_one (ps_for PassesOwn.never rfl (pi_list (pv 4)) (pg_name (i := 5) sc__counted_forms.nd rfl (Or.inl rfl)) (pss_cons (ps_set (i := 6) sc__counted_forms.nd rfl (Or.inl rfl) (pe_op op_fdivW (pv 3) (pv 5)))
  (pss_cons (ps_expr (pe_bm PySem.F.plainAttrs_list PySem.F.slot_list_append PySem.F.type_list_append mt_append (pv 1) (pa_cons (pe_tup (pa_cons (pv 5) (pa_cons (pv 2) (pa_cons (pv 6) pa_nil)))) pa_nil)))
  (pss_one (ps_if (pt_chain3 op_lt op_lt op_lt pe_int (pv 2) (pv 5) (pv 6)) (pss_one (ps_expr (pe_bm PySem.F.plainAttrs_list PySem.F.slot_list_append PySem.F.type_list_append mt_append (pv 1) (pa_cons (pe_tup (pa_cons (pv 5) (pa_cons (pe_un un_neg (pv 2)) (pa_cons (pv 6) pa_nil)))) pa_nil)))) pss_nil)))))))))
  (pss_one (ps_ret (pe_callB cr_sorted3 rfl B.sorted (by decide +kernel) (pa_cons (pv 1) pa_nil)))))), ?_⟩
    walk_at "rd"
    refine ⟨Nat.zero_le _, fun fnd nf => ⟨by decide, ⟨by decide, by decide +kernel⟩, ?_⟩⟩
    rw [Int.neg_neg, show -n % 2 = n % 2 by omega]
    have r3 := hS.r3
    have hn0 := hS.pos
    have hn1 := hS.le
    refine ⟨n / 3, rfl, r3.1, big1 r3.1 (by omega), ?_⟩
    walk_at "rd"
    refine ⟨cnt n, RgC2 (by omega) (by omega) (by have := isq_nn (n / 3); omega) (by omega), ForC.w (fun i σ H1 => ∃ xs s2 s3 s4 s5 s6 s7, σ = [some (.int (-n)), some (.ref fnd), s2, s3, s4, s5, s6, s7] ∧ Same H H1 ∧ H1 fnd = some (.lst xs) ∧ Trs H1 xs (formsF n i))
      ⟨[], _, _, _, _, _, _, rfl, same_upd nf, upd_same, Trs.nil⟩ ?_ ?_⟩
    · rintro i σ H1 hi ⟨xs, s2, s3, s4, s5, s6, s7, rfl, sm, hf, ht⟩ N hN
      have hb := hS.b hi
      have hlen := hS.len i (by omega)
      have hcn := hS.cnt
      rw [formsF_succ] at hN
      rw [show n % 2 + (i : Int) * 2 = bAt n i from rfl]
      generalize bAt n i = b at *
      obtain ⟨b0, b1, b2, i1⟩ := hb
      have hm := hS.m b0 b2
      have hk := hS.k b0 b2
      have em : (b * b - -n) / 4 = mB n b := by unfold mB; rw [Int.sub_neg]
      walk_at "rd"
      rw [em]
      have hx := mx1_ge b
      have q0 := isq_nn (mB n b)
      refine ⟨mulL (by omega), divSmall (by decide) (by decide), mB n b, rfl, hm.1, big1 hm.1 (by omega), ?_⟩
      walk_at "rd"
      rw [show (if 1 > b then (1 : Int) else b) = mx1 b from rfl, show (isq (mB n b) + 1 - mx1 b).toNat = kB n b from rfl]
      refine ⟨by omega, by omega, by omega, by omega, LcR.w (fun j D ys H2 => ys = (dv (mB n b) (mx1 b) j).map V.int ∧ H2 = upd H1 D (.lst ys)) (fun D nD => ⟨rfl, rfl⟩) ?_ ?_⟩
      · rintro D j ys H2 hj ⟨rfl, rfl⟩ N2 hN2
        walk_at "rd"
        refine ⟨by omega, ite2 (fun hdv => ?_) (fun hdv => ?_)⟩
        · refine ⟨_, upd_same, ?_, ?_⟩
          · rw [List.length_map]
            exact small_size (Nat.le_trans dv_len (by omega))
          · refine hN2 _ _ ⟨rfl, ?_⟩
            rw [upd_upd, dv_yes hdv, List.map_append]
            rfl
        · exact hN2 _ _ ⟨rfl, by rw [dv_no hdv]⟩
      · rintro D ys H2 nD ⟨rfl, rfl⟩
        walk_at "rd"
        have fD : fnd ≠ D := ne_of_none hf nD
        have hDn : H D = none := sm.free nD
        refine ⟨⟨_, SqL.of upd_same⟩, ForL.w (xs := (dv (mB n b) (mx1 b) (kB n b)).map V.int) (fun j σ H3 => ∃ xs' s5 s6 s7, σ = [some (.int (-n)), some (.ref fnd), some (.int b), some (.int (mB n b)), some (.ref D), s5, s6, s7] ∧ Same H H3 ∧
            H3 D = some (.lst ((dv (mB n b) (mx1 b) (kB n b)).map V.int)) ∧ H3 fnd = some (.lst xs') ∧ Trs H3 xs' (formsF n i ++ ((dv (mB n b) (mx1 b) (kB n b)).take j).flatMap (cell b (mB n b))))
          ⟨xs, _, _, _, rfl, same_at sm hDn, upd_same, by rw [upd_ne fD]; exact hf, ?_⟩ ?_ ?_ ?_⟩
        · rw [List.take_zero, List.flatMap_nil, List.append_nil]
          exact ht.updN nD
        · rintro j σ H3 _ ⟨xs', s5, s6, s7, rfl, sm3, hD3, hf3, ht3⟩
          exact SqL.of hD3
        · rintro j v σ H3 hv ⟨xs', s5, s6, s7, rfl, sm3, hD3, hf3, ht3⟩ N3 hN3
          rw [List.getElem?_map] at hv
          obtain ⟨a, ha, rfl⟩ := Option.map_eq_some_iff.mp hv
          have hj : j < (dv (mB n b) (mx1 b) (kB n b)).length := (List.getElem?_eq_some_iff.mp ha).1
          have hmem := dv_mem (List.mem_of_getElem? ha)
          have hl3 : xs'.length ≤ 1200 * i + 2 * j := by
            rw [← ht3.len, List.length_append]
            have e1 : (((dv (mB n b) (mx1 b) (kB n b)).take j).flatMap (cell b (mB n b))).length ≤ 2 * j := by
              have : ∀ l : List Int, (l.flatMap (cell b (mB n b))).length ≤ 2 * l.length := fun l => by
                induction l with
                | nil => simp
                | cons y l ih =>
                  rw [List.flatMap_cons, List.length_append, List.length_cons]
                  have := cell_len b (mB n b) y
                  omega
              refine Nat.le_trans (this _) ?_
              rw [List.length_take]
              omega
            omega
          have hjk : j < kB n b := Nat.lt_of_lt_of_le hj dv_len
          have etk : (dv (mB n b) (mx1 b) (kB n b)).take (j + 1) = (dv (mB n b) (mx1 b) (kB n b)).take j ++ [a] := by
            rw [List.take_add_one, ha]
            rfl
          have ecell : cell b (mB n b) a = (a, b, mB n b / a) :: (if 0 < b ∧ b < a ∧ a < mB n b / a then [(a, -b, mB n b / a)] else []) := by
            unfold cell
            rw [if_pos hmem.1]
          rw [etk, List.flatMap_append, List.flatMap_singleton, ecell] at hN3
          walk_at "rd"
          refine ⟨divSmall (by omega) (by omega), tyL hf3, by decide, fun t1 n1 => ?_⟩
          have ft1 : fnd ≠ t1 := ne_of_none hf3 n1
          have Dt1 : D ≠ t1 := ne_of_none hD3 n1
          refine ⟨xs', by rw [upd_ne ft1]; exact hf3, small_size (by omega), ?_⟩
          have e1 : (upd (upd H3 t1 (.tup [.int a, .int b, .int (mB n b / a)])) fnd (.lst (xs' ++ [.ref t1]))) fnd = some (.lst (xs' ++ [.ref t1])) := upd_same
          have T1 : Trs (upd (upd H3 t1 (.tup [.int a, .int b, .int (mB n b / a)])) fnd (.lst (xs' ++ [.ref t1]))) (xs' ++ [.ref t1]) (formsF n i ++ ((dv (mB n b) (mx1 b) (kB n b)).take j).flatMap (cell b (mB n b)) ++ [(a, b, mB n b / a)]) :=
            ((ht3.updN n1).snoc upd_same).updL (by rw [upd_ne ft1]; exact hf3)
          have S1 : Same H (upd (upd H3 t1 (.tup [.int a, .int b, .int (mB n b / a)])) fnd (.lst (xs' ++ [.ref t1]))) := same_at (same_at sm3 (sm3.free n1)) nf
          have D1 : (upd (upd H3 t1 (.tup [.int a, .int b, .int (mB n b / a)])) fnd (.lst (xs' ++ [.ref t1]))) D = some (.lst ((dv (mB n b) (mx1 b) (kB n b)).map V.int)) := by
            rw [upd_ne fD.symm, upd_ne Dt1]
            exact hD3
          generalize upd (upd H3 t1 (.tup [.int a, .int b, .int (mB n b / a)])) fnd (.lst (xs' ++ [.ref t1])) = H4 at *
          have yes : 0 < b ∧ b < a ∧ a < mB n b / a → tyV K "list" (V.ref fnd) H4 ∧ 3 ≤ sizeLine ∧ ∀ p, H4 p = none → ∃ x, (upd H4 p (.tup [.int a, .int (-b), .int (mB n b / a)])) fnd = some (.lst x) ∧ x.length < sizeLine ∧
              N3 [some (.int (-n)), some (.ref fnd), some (.int b), some (.int (mB n b)), some (.ref D), some (.int a), some (.int (mB n b / a)), s7] (upd (upd H4 p (.tup [.int a, .int (-b), .int (mB n b / a)])) fnd (.lst (x ++ [.ref p]))) := fun c => by
            refine ⟨tyL e1, by decide, fun t2 n2 => ?_⟩
            have ft2 : fnd ≠ t2 := ne_of_none e1 n2
            have Dt2 : D ≠ t2 := ne_of_none D1 n2
            refine ⟨_, by rw [upd_ne ft2]; exact e1, by rw [List.length_append, List.length_singleton]; exact small_size (by omega), hN3 _ _ ⟨_, _, _, _, rfl, same_at (same_at S1 (S1.free n2)) nf, ?_, upd_same, ?_⟩⟩
            · rw [upd_ne fD.symm, upd_ne Dt2]
              exact D1
            · rw [if_pos c]
              have := ((T1.updN n2 (o := .tup [.int a, .int (-b), .int (mB n b / a)])).snoc upd_same).updL (f := fnd) (o := .lst (xs' ++ [.ref t1] ++ [.ref t2])) (by rw [upd_ne ft2]; exact e1)
              simpa only [List.append_assoc, List.cons_append, List.nil_append] using this
          have no : ¬ (0 < b ∧ b < a ∧ a < mB n b / a) → N3 [some (.int (-n)), some (.ref fnd), some (.int b), some (.int (mB n b)), some (.ref D), some (.int a), some (.int (mB n b / a)), s7] H4 := fun c => by
            refine hN3 _ _ ⟨_, _, _, _, rfl, S1, D1, e1, ?_⟩
            rw [if_neg c, ← List.append_assoc]
            exact T1
          refine ite2 (fun c1 => ite2 (fun c2 => ?_) (fun c2 => no fun c => c2 c.2.1)) (fun c1 => no fun c => c1 c.1)
          refine ite2 (fun c3 => yes ⟨c1, c2, c3⟩) (fun c3 => no fun c => c3 c.2.2)
        · rintro σ H3 ⟨xs', s5, s6, s7, rfl, sm3, hD3, hf3, ht3⟩
          rw [List.length_map, List.take_length] at ht3
          refine hN _ _ ⟨_, _, _, _, _, _, _, rfl, sm3, hf3, ?_⟩
          unfold rowN
          rw [dv_row]
          exact ht3
    · rintro σ H1 ⟨xs, s2, s3, s4, s5, s6, s7, rfl, sm, hf, ht⟩
      walk_at "rd"
      exact ⟨_, SqL.of hf, _, ht, fun ys us p hy hs hp np => q ys us p _ (same_at sm (sm.free np)) (sm.free np) upd_same (hy.updN np) hs hp⟩
end

section
variable {P : Program} {w : World} {K : PySem.W.Frag} {mg : Str → Option Value} {base : Heap}
abbrev s__law_all_reduced : Stmt := top 32
theorem sc__law_all_reduced : FnScope ["n", "found", "b", "m", "a"] ["n"] (defScope s__law_all_reduced) := ⟨rfl, rfl, rfl, by decide +kernel, rfl, by decide +kernel, by decide +kernel⟩

def spReduced : Sp := fun vs H Q _ => ∃ n : Int, vs = [.int n] ∧ Sm n ∧ GotForms H n Q
theorem cal_reduced (D : Dn K mg "_law_all_reduced" s__law_all_reduced ["n"]) (B : Bl mg) (c__law_root : Cal P w K mg base "_law_root" 1 ["n"] spLawRoot) : Cal P w K mg base "_law_all_reduced" 2 ["n"] spReduced := by
  refine D.cal sc__law_all_reduced (fun vs H Q E h => ?_) (fun f cdv A outer s H vs Q E hr h => ?_)
  · obtain ⟨n, rfl, _⟩ := h
    rfl
  · obtain ⟨n, rfl, hS, q⟩ := h
    refine ⟨_, (pss_cons (ps_set (i := 1) sc__law_all_reduced.nd rfl (Or.inl rfl) (pe_lst pa_nil))
  (pss_cons (ps_for PassesOwn.never rfl (pi_range3 rfl B.range (pa_cons (pe_op op_mod (pe_callTy call_int1 rfl B.int boot_int (pa_cons (pv 0) pa_nil)) pe_int) (pa_cons (pe_op op_add (pe_cal c__law_root (hr.mono (by decide)) rfl (pa_cons (pe_op op_fdivW (pv 0) pe_int) pa_nil)) pe_int) (pa_cons pe_int pa_nil)))) (pg_name (i := 2) sc__law_all_reduced.nd rfl (Or.inl rfl)) (pss_cons (ps_set (i := 3) sc__law_all_reduced.nd rfl (Or.inl rfl) (pe_op op_fdivW (pe_op op_add (pe_op op_mulI (pv 2) (pv 2)) (pv 0)) pe_int))
  (pss_cons (ps_set (i := 4) sc__law_all_reduced.nd rfl (Or.inl rfl) (pe_callB (call_max2 rfl) rfl B.max (by decide +kernel) (pa_cons (pv 2) (pa_cons pe_int pa_nil))))
  (pss_one (ps_while PassesOwn.never (pt_cmpR op_le (pe_op op_mulI (pv 4) (pv 4)) (pv 3) (nomark _)) (pss_cons (ps_if (pt_cmpR op_eq (pe_op op_mod (pe_callTy call_int1 rfl B.int boot_int (pa_cons (pv 3) pa_nil)) (pv 4)) pe_int (nomark _)) (pss_cons (ps_expr (pe_bm PySem.F.plainAttrs_list PySem.F.slot_list_append PySem.F.type_list_append mt_append (pv 1) (pa_cons (pe_tup (pa_cons (pv 4) (pa_cons (pv 2) (pa_cons (pe_op op_fdivW (pv 3) (pv 4)) pa_nil)))) pa_nil)))
  (pss_one (ps_if (PW.pt (pw_and (pt_chain op_lt op_lt pe_int (pv 2) (pv 4)) (pw_and1 (pt_cmpR op_lt (pv 4) (pe_op op_fdivW (pv 3) (pv 4)) (nomark _))))) (pss_one (ps_expr (pe_bm PySem.F.plainAttrs_list PySem.F.slot_list_append PySem.F.type_list_append mt_append (pv 1) (pa_cons (pe_tup (pa_cons (pv 4) (pa_cons (pe_un un_neg (pv 2)) (pa_cons (pe_op op_fdivW (pv 3) (pv 4)) pa_nil)))) pa_nil)))) pss_nil))) pss_nil)
  (pss_one (ps_set (i := 4) sc__law_all_reduced.nd rfl (Or.inl rfl) (pe_op op_add (pv 4) pe_int)))))))))
  (pss_one (ps_ret (pe_callB cr_sorted3 rfl B.sorted (by decide +kernel) (pa_cons (pv 1) pa_nil)))))), ?_⟩
    have r3 := hS.r3
    have hn0 := hS.pos
    have hn1 := hS.le
    walk_at "rd"
    refine ⟨Nat.zero_le _, fun fnd nf => ⟨by decide, ⟨by decide, by decide +kernel⟩, n / 3, rfl, r3.1, big1 r3.1 (by omega), ?_⟩⟩
    walk_at "rd"
    refine ⟨cnt n, RgC2 (by omega) (by omega) (by have := isq_nn (n / 3); omega) (by omega), ForC.w (fun i σ H1 => ∃ xs s2 s3 s4, σ = [some (.int n), some (.ref fnd), s2, s3, s4] ∧ Same H H1 ∧ H1 fnd = some (.lst xs) ∧ Trs H1 xs (formsF n i))
      ⟨[], _, _, _, rfl, same_upd nf, upd_same, Trs.nil⟩ ?_ ?_⟩
    · rintro i σ H1 hi ⟨xs, s2, s3, s4, rfl, sm, hf, ht⟩ N hN
      have hb := hS.b hi
      have hlen := hS.len i (by omega)
      have hcn := hS.cnt
      rw [formsF_succ] at hN
      rw [show n % 2 + (i : Int) * 2 = bAt n i from rfl]
      generalize bAt n i = b at *
      obtain ⟨b0, b1, b2, i1⟩ := hb
      have hm := hS.m b0 b2
      have hk := hS.k b0 b2
      have hx := mx1_ge b
      have q0 := isq_nn (mB n b)
      walk_at "rd"
      rw [show (b * b + n) / 4 = mB n b from rfl, show (if 1 > b then (1 : Int) else b) = mx1 b from rfl]
      have hkk : ((kB n b : Nat) : Int) = isq (mB n b) + 1 - mx1 b ∨ (kB n b = 0 ∧ isq (mB n b) < mx1 b) := by
        unfold kB
        omega
      refine ⟨mulL (by omega), divSmall (by decide) (by decide), while_w (fun σ H3 => ∃ (j : Nat) (xs' : List V), j ≤ kB n b ∧ σ = [some (.int n), some (.ref fnd), some (.int b), some (.int (mB n b)), some (.int (mx1 b + j))] ∧ Same H H3 ∧ H3 fnd = some (.lst xs') ∧ Trs H3 xs' (formsF n i ++ rowF b (mB n b) (mx1 b) j))
        (fun σ _ => match σ with | [_, _, _, _, some (.int a)] => (400000 - a).toNat | _ => 0) ⟨0, xs, Nat.zero_le _, by simp, sm, hf, by simpa [rowF] using ht⟩ ?_⟩
      rintro σ H3 ⟨j, xs', hj, rfl, sm3, hf3, ht3⟩ N3 hN3
      have hl3 : xs'.length ≤ 1200 * i + 2 * j := by
        rw [← ht3.len, List.length_append]
        have := rowF_len b (mB n b) (mx1 b) j
        omega
      generalize ha : mx1 b + (j : Int) = a at *
      have a0 : 0 < a := by omega
      refine ⟨decide (a * a ≤ mB n b), fun Q' q' => ?_, fun hb => ?_, fun hb => ?_⟩
      · walk_at "rd"
        exact ⟨mulL (by omega), q'⟩
      · have hle := (isq_iff hm.1 (by omega)).mp (of_decide_eq_true hb)
        have hjk : j < kB n b := by omega
        have hne : ∀ (xs2 : List V) (H5 : Hp), Same H H5 → H5 fnd = some (.lst xs2) → Trs H5 xs2 (formsF n i ++ rowF b (mB n b) (mx1 b) j ++ cell b (mB n b) a) → N3 [some (.int n), some (.ref fnd), some (.int b), some (.int (mB n b)), some (.int (a + 1))] H5 := by
          intro xs2 H5 g1 g2 g3
          refine hN3 _ _ ⟨j + 1, xs2, hjk, ?_, g1, g2, ?_⟩ (by show (400000 - (a + 1)).toNat < (400000 - a).toNat; omega)
          · rw [← ha]
            simp only [Int.natCast_add, Int.natCast_one, Int.add_assoc]
          · rw [rowF_succ, ha, ← List.append_assoc]
            exact g3
        walk_at "rd"
        refine ⟨by omega, ite2 (fun hdv => ?_) (fun hdv => ?_)⟩
        · refine ⟨tyL hf3, divSmall (by omega) (by omega), by decide, fun t1 n1 => ?_⟩
          have ecell : cell b (mB n b) a = (a, b, mB n b / a) :: (if 0 < b ∧ b < a ∧ a < mB n b / a then [(a, -b, mB n b / a)] else []) := by
            unfold cell
            rw [if_pos hdv]
          rw [ecell] at hne
          have ft1 : fnd ≠ t1 := ne_of_none hf3 n1
          refine ⟨xs', by rw [upd_ne ft1]; exact hf3, small_size (by omega), ?_⟩
          have e1 : (upd (upd H3 t1 (.tup [.int a, .int b, .int (mB n b / a)])) fnd (.lst (xs' ++ [.ref t1]))) fnd = some (.lst (xs' ++ [.ref t1])) := upd_same
          have T1 : Trs (upd (upd H3 t1 (.tup [.int a, .int b, .int (mB n b / a)])) fnd (.lst (xs' ++ [.ref t1]))) (xs' ++ [.ref t1]) (formsF n i ++ rowF b (mB n b) (mx1 b) j ++ [(a, b, mB n b / a)]) :=
            ((ht3.updN n1).snoc upd_same).updL (by rw [upd_ne ft1]; exact hf3)
          have S1 : Same H (upd (upd H3 t1 (.tup [.int a, .int b, .int (mB n b / a)])) fnd (.lst (xs' ++ [.ref t1]))) := same_at (same_at sm3 (sm3.free n1)) nf
          generalize upd (upd H3 t1 (.tup [.int a, .int b, .int (mB n b / a)])) fnd (.lst (xs' ++ [.ref t1])) = H4 at *
          have no : ¬ (0 < b ∧ b < a ∧ a < mB n b / a) → N3 [some (.int n), some (.ref fnd), some (.int b), some (.int (mB n b)), some (.int (a + 1))] H4 := fun c => by
            rw [if_neg c] at hne
            exact hne _ _ S1 e1 T1
          refine ite2 (fun c1 => ite2 (fun c2 => ⟨divSmall (by omega) (by omega), ite2 (fun c3 => ?_) (fun c3 => no fun c => c3 c.2.2)⟩) (fun c2 => no fun c => c2 c.2.1)) (fun c1 => no fun c => c1 c.1)
          refine ⟨tyL e1, divSmall (by omega) (by omega), by decide, fun t2 n2 => ?_⟩
          have ft2 : fnd ≠ t2 := ne_of_none e1 n2
          refine ⟨_, by rw [upd_ne ft2]; exact e1, by rw [List.length_append, List.length_singleton]; exact small_size (by omega), ?_⟩
          rw [if_pos ⟨c1, c2, c3⟩] at hne
          refine hne _ _ (same_at (same_at S1 (S1.free n2)) nf) upd_same ?_
          have := ((T1.updN n2 (o := .tup [.int a, .int (-b), .int (mB n b / a)])).snoc upd_same).updL (f := fnd) (o := .lst (xs' ++ [.ref t1] ++ [.ref t2])) (by rw [upd_ne ft2]; exact e1)
          simpa only [List.append_assoc, List.cons_append, List.nil_append] using this
        · refine hne _ _ sm3 hf3 ?_
          unfold cell
          rw [if_neg hdv, List.append_nil]
          exact ht3
      · have hgt : ¬ a ≤ isq (mB n b) := fun z => of_decide_eq_false hb ((isq_iff hm.1 (by omega)).mpr z)
        have hjk : j = kB n b := by omega
        walk_at "rd"
        refine hN _ _ ⟨_, _, _, _, rfl, sm3, hf3, ?_⟩
        unfold rowN
        rw [← hjk]
        exact ht3
    · rintro σ H1 ⟨xs, s2, s3, s4, rfl, sm, hf, ht⟩
      walk_at "rd"
      exact ⟨_, SqL.of hf, _, ht, fun ys us p hy hs hp np => q ys us p _ (same_at sm (sm.free np)) (sm.free np) upd_same (hy.updN np) hs hp⟩
end

/-! ### discriminants -/
def sqB (n : Int) : Bool := decide (0 ≤ n ∧ isq n * isq n = n)
def discB (n : Int) : Bool := decide (n % 4 = 0 ∨ n % 4 = 1) && !sqB n
theorem isq_neg {n : Int} (h : n < 0) : sqB n = false := decide_eq_false fun z => by omega
theorem isq_big {n : Int} (h0 : 0 ≤ n) (h : n < BIG) : (isq n).natAbs < 2 ^ 3004 := by
  have a := low_le (isq_nn n) (isq_le h0)
  have b := isq_nn n
  have c := BIG_pos
  exact bigAbs (by omega) (by omega)
section
variable {P : Program} {w : World} {K : PySem.W.Frag} {mg : Str → Option Value} {base : Heap} {CM CR : Addr}
abbrev s_is_square : Stmt := top 12
theorem sc_is_square : FnScope ["n"] ["n"] (defScope s_is_square) := ⟨rfl, rfl, rfl, by decide +kernel, rfl, by decide +kernel, by decide +kernel⟩

def spSq : Sp := fun vs H Q _ => ∃ n : Int, vs = [.int n] ∧ n < BIG ∧ Q (.bl (sqB n)) H
theorem cal_is_square (D : Dn K mg "is_square" s_is_square ["n"]) (B : Bl mg) : Cal P w K mg base "is_square" 1 ["n"] spSq := by
  refine D.cal sc_is_square (fun vs H Q E h => ?_) (fun f cdv A outer s H vs Q E hr h => ?_)
  · obtain ⟨n, rfl, _⟩ := h
    rfl
  · obtain ⟨n, rfl, h1, q⟩ := h
    refine ⟨_, (pss_one (ps_ret (pe_and (pe_cmpR op_ge (pv 0) pe_int (nomark _)) (pe_one (pe_cmpR op_eq (pe_op op_powI (pe_callBfun cr_isqrt rfl B.isqrt (pa_cons (pv 0) pa_nil)) pe_int) (pv 0) (nomark _)))))), ?_⟩
    walk_at "rd"
    refine ite2 (fun h0 => ⟨h0, Int.lt_trans h1 BIG_big, powI (n := 3004) (isq_big h0 h1) (by decide) (by decide) (by decide), ?_⟩) (fun h0 => ?_)
    · have e : decide (isq n ^ (2 : Int).toNat = n) = sqB n := by
        unfold sqB
        rw [show (2 : Int).toNat = 2 from rfl, Int.pow_succ, Int.pow_succ, Int.pow_zero, Int.one_mul]
        by_cases c : isq n * isq n = n
        · rw [decide_eq_true c, decide_eq_true ⟨h0, c⟩]
        · rw [decide_eq_false c, decide_eq_false fun z => c z.2]
      show Q (.bl (decide (isq n ^ (2 : Int).toNat = n))) H
      rw [e]
      exact q
    · rw [isq_neg (by omega)] at q
      exact q
abbrev s_is_discriminant : Stmt := top 14
theorem sc_is_discriminant : FnScope ["value"] ["value"] (defScope s_is_discriminant) := ⟨rfl, rfl, rfl, by decide +kernel, rfl, by decide +kernel, by decide +kernel⟩

/-- no integer, or one that is no discriminant -/
def NotD (K : PySem.W.Frag) (H : Hp) (v : V) : Prop := (∃ T, TyX K H v (.type T) ∧ T ∈ kinds ∧ (T == "int") = false) ∨ ∃ n : Int, v = .int n ∧ n < BIG ∧ discB n = false
def spDisc (K : PySem.W.Frag) : Sp := fun vs H Q _ => ∃ v : V, vs = [v] ∧ ((NotD K H v ∧ ∀ H', Same H H' → Q (.bl false) H') ∨ ∃ n : Int, v = .int n ∧ n < BIG ∧ discB n = true ∧ ∀ H', Same H H' → Q (.bl true) H')
theorem in01 (n : Int) : inV (.int (n % 4)) [V.int 0, V.int 1] = decide (n % 4 = 0 ∨ n % 4 = 1) := by
  have e1 : inV (.int (n % 4)) [V.int 0, V.int 1] = ((0 : Int) == n % 4 || ((1 : Int) == n % 4 || false)) := rfl
  rw [e1]
  by_cases c1 : n % 4 = 0
  · simp [c1]
  · by_cases c2 : n % 4 = 1
    · simp [c2]
    · have d1 : ¬ (0 : Int) = n % 4 := fun z => c1 z.symm
      have d2 : ¬ (1 : Int) = n % 4 := fun z => c2 z.symm
      simp [c1, c2, d1, d2]
theorem cal_is_disc (D : Dn K mg "is_discriminant" s_is_discriminant ["value"]) (B : Bl mg) (c_is_integer : Cal P w K mg base "is_integer" 1 ["value"] (spInt K)) (c_is_square : Cal P w K mg base "is_square" 1 ["n"] spSq) :
    Cal P w K mg base "is_discriminant" 2 ["value"] (spDisc K) := by
  refine D.cal sc_is_discriminant (fun vs H Q E h => ?_) (fun f cdv A outer s H vs Q E hr h => ?_)
  · obtain ⟨v, rfl, _⟩ := h
    rfl
  · obtain ⟨v, rfl, h⟩ := h
    refine ⟨_, (pss_one (ps_ret (pe_and (pe_cal c_is_integer (hr.mono (by decide)) rfl (pa_cons (pv 0) pa_nil)) (pe_and (pe_cmpR op_in_seq (pe_op op_mod (pv 0) pe_int) (pe_tup (pa_cons pe_int (pa_cons pe_int pa_nil))) (by rfl)) (pe_one (pe_not (pe_cal c_is_square (hr.mono (by decide)) rfl (pa_cons (pv 0) pa_nil)))))))), ?_⟩
    walk_at "rd"
    have go : ∀ n : Int, n < BIG → (∀ H', Same H H' → Q (.bl (discB n)) H') → spInt K [.int n] H (fun x H1 => ∃ c, x = V.bl c ∧ if c = true then (0 < (4 : Int) ∧ 2 ≤ sizeLine ∧ ∀ p, H1 p = none → rIn K false (V.int (n % 4)) (V.ref p) (upd H1 p (HO.tup [V.int 0, V.int 1])) fun x H' => ∃ c, x = V.bl c ∧ if c = true then spSq [V.int n] H' (fun x H1 => ∃ c, x = V.bl c ∧ Q (V.bl !c) H1) E0 else Q (V.bl false) H') else Q (V.bl false) H1) E0 := by
      intro n hn q
      refine ⟨.int n, "int", rfl, .base (.int n), by decide, true, rfl, ?_⟩
      rw [if_pos rfl]
      refine ⟨by decide, by decide, fun p np => ⟨p, _, rfl, .inr (SqT.of upd_same), rfl, rfl, inV (.int (n % 4)) [V.int 0, V.int 1], rfl, ?_⟩⟩
      have s1 : Same H (upd H p (.tup [V.int 0, V.int 1])) := same_upd np
      have q1 := q _ s1
      rw [in01]
      unfold discB at q1
      refine ite2 (fun c => ?_) (fun c => ?_)
      · rw [c, Bool.true_and] at q1
        exact ⟨n, rfl, hn, _, rfl, q1⟩
      · rw [Bool.not_eq_true] at c
        rw [c, Bool.false_and] at q1
        exact q1
    rcases h with ⟨⟨T, ty, hT, hi⟩ | ⟨n, rfl, hn, hd⟩, q⟩ | ⟨n, rfl, hn, hd, q⟩
    · refine ⟨v, T, rfl, ty, hT, false, by rw [hi], ?_⟩
      rw [if_neg Bool.false_ne_true]
      exact q H (Same.refl H)
    · have g := go n hn (fun H' s => by rw [hd]; exact q H' s)
      walk_at "rd"
      exact g
    · have g := go n hn (fun H' s => by rw [hd]; exact q H' s)
      walk_at "rd"
      exact g
abbrev s_check_discriminant : Stmt := top 15
theorem sc_check_discriminant : FnScope ["D"] ["D"] (defScope s_check_discriminant) := ⟨rfl, rfl, rfl, by decide +kernel, rfl, by decide +kernel, by decide +kernel⟩

def spChk (K : PySem.W.Frag) (CM : Addr) : Sp := fun vs H Q E => ∃ v : V, vs = [v] ∧ ((NotD K H v ∧ ∀ H', Same H H' → E (.ref CM) none H') ∨ ∃ n : Int, v = .int n ∧ n < BIG ∧ discB n = true ∧ ∀ H', Same H H' → Q .non H')
theorem cal_check (D : Dn K mg "check_discriminant" s_check_discriminant ["D"]) (B : Bl mg) (c_is_discriminant : Cal P w K mg base "is_discriminant" 2 ["value"] (spDisc K)) (e_E : ErrI P w K mg base CM CR) :
    CalX P w K mg base "check_discriminant" 3 ["D"] (spChk K CM) := by
  refine D.calX sc_check_discriminant (fun vs H Q E h => ?_) (fun f cdv A outer s H vs Q E hr h => ?_)
  · obtain ⟨v, rfl, _⟩ := h
    rfl
  · obtain ⟨v, rfl, h⟩ := h
    refine ⟨_, (pss_one (ps_if (pt_not (pt_val (pe_cal c_is_discriminant (hr.mono (by decide)) rfl (pa_cons (pv 0) pa_nil)))) (pss_one (ps_mal e_E.m rfl (takes_of rfl rfl rfl rfl) rfl)) pss_nil)), ?_⟩
    walk_at "rd"
    refine ⟨v, rfl, ?_⟩
    rcases h with ⟨hn, q⟩ | ⟨n, rfl, hn, hd, q⟩
    · exact .inl ⟨hn, fun H' sm => ⟨false, rfl, by rw [if_pos (by decide)]; exact q H' sm⟩⟩
    · exact .inr ⟨n, rfl, hn, hd, fun H' sm => ⟨true, rfl, by rw [if_neg (by decide)]; exact q H' sm⟩⟩
end

/-! ### counted forms, refused sizes -/
def g3 (t : T3) : Int := ((Nat.gcd (((Nat.gcd t.1.natAbs t.2.1.natAbs : Nat) : Int)).natAbs t.2.2.natAbs : Nat) : Int)
def prim (l : List T3) : List T3 := l.filter fun t => decide (g3 t = 1)
section
variable {P : Program} {w : World} {K : PySem.W.Frag} {mg : Str → Option Value} {base : Heap} {CM CR : Addr}
abbrev s_told_content : Stmt := top 16
theorem sc_told_content : FnScope ["f", "a", "b", "c"] ["f"] (defScope s_told_content) := ⟨rfl, rfl, rfl, by decide +kernel, rfl, by decide +kernel, by decide +kernel⟩

def spCont : Sp := fun vs H Q _ => ∃ (r : Addr) (a b c : Int), vs = [.ref r] ∧ H r = some (.tup [.int a, .int b, .int c]) ∧ Q (.int (g3 (a, b, c))) H
theorem cal_content (D : Dn K mg "told_content" s_told_content ["f"]) (B : Bl mg) : Cal P w K mg base "told_content" 1 ["f"] spCont := by
  refine D.cal sc_told_content (fun vs H Q E h => ?_) (fun f cdv A outer s H vs Q E hr h => ?_)
  · obtain ⟨r, a, b, c, rfl, _⟩ := h
    rfl
  · obtain ⟨r, a, b, c, rfl, ht, q⟩ := h
    refine ⟨_, (pss_cons (ps_asg (pv 0) (pg_tup rfl (pgs_cons (pg_name (i := 1) sc_told_content.nd rfl (Or.inl rfl)) (pgs_cons (pg_name (i := 2) sc_told_content.nd rfl (Or.inl rfl)) (pgs_cons (pg_name (i := 3) sc_told_content.nd rfl (Or.inl rfl)) pgs_nil)))))
  (pss_one (ps_ret (pe_callBfun cr_gcd rfl B.gcd (pa_cons (pe_callBfun cr_gcd rfl B.gcd (pa_cons (pv 1) (pa_cons (pv 2) pa_nil))) (pa_cons (pv 3) pa_nil)))))), ?_⟩
    walk_at "rd"
    refine ⟨_, SqT.of ht, rfl, _, _, rfl, _, _, rfl, _, _, rfl, rfl, ?_⟩
    try walk_at "rd"
    exact q
abbrev s__check_counted : Stmt := top 19
theorem sc__check_counted : FnScope ["D"] ["D"] (defScope s__check_counted) := ⟨rfl, rfl, rfl, by decide +kernel, rfl, by decide +kernel, by decide +kernel⟩

def Bad (K : PySem.W.Frag) (H : Hp) (v : V) : Prop := NotD K H v ∨ ∃ n : Int, v = .int n ∧ n < BIG ∧ 0 < n
/-- Malformed, Refused, or the rest R -/
def Out3 (K : PySem.W.Frag) (CM CR : Addr) (H : Hp) (v : V) (E : XK) (R : Int → Prop) : Prop :=
  (Bad K H v ∧ ∀ H', Same H H' → E (.ref CM) none H') ∨
  (∃ n : Int, v = .int n ∧ discB n = true ∧ n < -1000000 ∧ ∀ d H', Same H H' → H d = none → H' d = some (.xd [("reason", .str "large")]) → E (.ref CR) (some d) H') ∨
  ∃ n : Int, v = .int n ∧ discB n = true ∧ Sm (-n) ∧ R n
def spCC (K : PySem.W.Frag) (CM CR : Addr) : Sp := fun vs H Q E => ∃ v : V, vs = [v] ∧ Out3 K CM CR H v E fun _ => ∀ H', Same H H' → Q .non H'
theorem cal_cc (D : Dn K mg "_check_counted" s__check_counted ["D"]) (B : Bl mg) (c_check_discriminant : CalX P w K mg base "check_discriminant" 3 ["D"] (spChk K CM)) (e_E : ErrI P w K mg base CM CR) :
    CalX P w K mg base "_check_counted" 4 ["D"] (spCC K CM CR) := by
  refine D.calX sc__check_counted (fun vs H Q E h => ?_) (fun f cdv A outer s H vs Q E hr h => ?_)
  · obtain ⟨v, rfl, _⟩ := h
    rfl
  · obtain ⟨v, rfl, h⟩ := h
    have hB := BIG_pos
    refine ⟨_, (pss_cons (ps_expr (pe_calS c_check_discriminant (takes_of rfl rfl rfl rfl) (hr.mono (by decide)) rfl (pa_cons (pv 0) pa_nil)))
  (pss_cons (ps_if (pt_cmpR op_gt (pv 0) pe_int (nomark _)) (pss_one (ps_mal e_E.m rfl (takes_of rfl rfl rfl rfl) rfl)) pss_nil)
  (pss_one (ps_if (pt_cmpR op_lt (pv 0) (pe_un un_neg (pe_glob (v := .int 1000000) rfl B.c_LARGEST.choose_spec ⟨_, rfl⟩)) (nomark _)) (pss_one (ps_ref e_E rfl (takes_of rfl rfl rfl rfl) (hr.mono (by decide)) rfl)) pss_nil)))), ?_⟩
    walk_at "rd"
    refine ⟨v, rfl, ?_⟩
    rcases h with ⟨hb | ⟨n, e, hn, h0⟩, q⟩ | ⟨n, rfl, hd, hn, q⟩ | ⟨n, rfl, hd, hS, q⟩
    · exact .inl ⟨hb, q⟩
    · by_cases hd : discB n = true
      · exact .inr ⟨n, e, hn, hd, fun H' sm => ⟨n, e, by rw [if_pos h0]; exact q H' sm⟩⟩
      · exact .inl ⟨.inr ⟨n, e, hn, by simpa using hd⟩, q⟩
    · refine .inr ⟨n, rfl, by omega, hd, fun H' sm => ⟨n, rfl, ?_⟩⟩
      rw [if_neg (by omega)]
      refine ⟨n, rfl, ?_⟩
      rw [if_pos (by omega)]
      exact fun d H2 s2 nd hx => q d H2 (sm.trans s2) (sm.free nd) hx
    · have := hS.pos
      have := hS.le
      refine .inr ⟨n, rfl, by omega, hd, fun H' sm => ⟨n, rfl, ?_⟩⟩
      rw [if_neg (by omega)]
      refine ⟨n, rfl, ?_⟩
      rw [if_neg (by omega)]
      exact q H' sm
abbrev s_reduced_forms : Stmt := top 21
theorem sc_reduced_forms : FnScope ["D"] ["D"] (defScope s_reduced_forms) := ⟨rfl, rfl, rfl, by decide +kernel, rfl, by decide +kernel, by decide +kernel⟩

/-- a new tuple of the reduced forms, sorted -/
def GotTup (H : Hp) (n : Int) (Q : VK) : Prop := ∀ (ys : List V) (us : List T3) (p : Addr) (H' : Hp), Same H H' → H p = none → H' p = some (.tup ys) → Trs H' ys us → us.Pairwise (fun p q => lexT q p = false) → us.Perm (forms n) → Q (.ref p) H'
def spRF (K : PySem.W.Frag) (CM CR : Addr) : Sp := fun vs H Q E => ∃ v : V, vs = [v] ∧ Out3 K CM CR H v E fun n => GotTup H (-n) Q
theorem cal_rf (D : Dn K mg "reduced_forms" s_reduced_forms ["D"]) (B : Bl mg) (c__check_counted : CalX P w K mg base "_check_counted" 4 ["D"] (spCC K CM CR)) (c__counted_forms : Cal P w K mg base "_counted_forms" 2 ["D"] spCounted) :
    CalX P w K mg base "reduced_forms" 5 ["D"] (spRF K CM CR) := by
  refine D.calX sc_reduced_forms (fun vs H Q E h => ?_) (fun f cdv A outer s H vs Q E hr h => ?_)
  · obtain ⟨v, rfl, _⟩ := h
    rfl
  · obtain ⟨v, rfl, h⟩ := h
    refine ⟨_, (pss_cons (ps_expr (pe_calS c__check_counted (takes_of rfl rfl rfl rfl) (hr.mono (by decide)) rfl (pa_cons (pv 0) pa_nil)))
  (pss_one (ps_ret (pe_callTy cr_tupOf rfl B.tuple boot_tuple (pa_cons (pe_cal c__counted_forms (hr.mono (by decide)) rfl (pa_cons (pv 0) pa_nil)) pa_nil))))), ?_⟩
    walk_at "rd"
    refine ⟨v, rfl, ?_⟩
    rcases h with h | h | ⟨n, rfl, hd, hS, q⟩
    · exact .inl h
    · exact .inr (.inl h)
    · refine .inr (.inr ⟨n, rfl, hd, hS, fun H1 s1 => ⟨-n, by rw [Int.neg_neg], hS, fun ys us p H2 s2 np hp ht hs hperm => ?_⟩⟩)
      exact ⟨p, rfl, _, .inl ⟨SqL.of hp, fun l nl => q ys us l _ (s1.trans (s2.trans (same_upd nl))) (s1.free (s2.free nl)) upd_same (ht.updN nl) hs hperm⟩⟩
abbrev s_class_number : Stmt := top 22
theorem sc_class_number : FnScope ["D", "f"] ["D"] (defScope s_class_number) := ⟨rfl, rfl, rfl, by decide +kernel, rfl, by decide +kernel, by decide +kernel⟩

def spCN (K : PySem.W.Frag) (CM CR : Addr) : Sp := fun vs H Q E => ∃ v : V, vs = [v] ∧ Out3 K CM CR H v E fun n => ∀ H', Same H H' → Q (.int ((prim (forms (-n))).length : Nat)) H'
theorem prim_yes {l : List T3} {t : T3} {i : Nat} (h : l[i]? = some t) (hg : g3 t = 1) : prim (l.take (i + 1)) = prim (l.take i) ++ [t] := by
  unfold prim
  rw [List.take_add_one, h, List.filter_append, Option.toList_some, List.filter_cons_of_pos (by simpa using hg), List.filter_nil]
theorem prim_no {l : List T3} {t : T3} {i : Nat} (h : l[i]? = some t) (hg : ¬ g3 t = 1) : prim (l.take (i + 1)) = prim (l.take i) := by
  unfold prim
  rw [List.take_add_one, h, List.filter_append, Option.toList_some, List.filter_cons_of_neg (by simpa using hg), List.filter_nil, List.append_nil]
theorem cal_cn (D : Dn K mg "class_number" s_class_number ["D"]) (B : Bl mg) (c__check_counted : CalX P w K mg base "_check_counted" 4 ["D"] (spCC K CM CR)) (c__counted_forms : Cal P w K mg base "_counted_forms" 2 ["D"] spCounted)
    (c_told_content : Cal P w K mg base "told_content" 1 ["f"] spCont) : CalX P w K mg base "class_number" 5 ["D"] (spCN K CM CR) := by
  refine D.calX sc_class_number (fun vs H Q E h => ?_) (fun f cdv A outer s H vs Q E hr h => ?_)
  · obtain ⟨v, rfl, _⟩ := h
    rfl
  · obtain ⟨v, rfl, h⟩ := h
    refine ⟨_, (pss_cons (ps_expr (pe_calS c__check_counted (takes_of rfl rfl rfl rfl) (hr.mono (by decide)) rfl (pa_cons (pv 0) pa_nil)))
  (pss_one (ps_ret (pe_callB cr_lenS rfl B.len (by decide +kernel) (pa_cons (pe_lc (own := [("f", 1)]) rfl sc_class_number.nd (pi_list (pe_cal c__counted_forms (hr.mono (by decide)) rfl (pa_cons (pv 0) pa_nil))) (blkOk_by (N := ["D", "f"]) (sc := defScope s_class_number) (own := [("f", 1)]) (by decide +kernel)) (fun _ _ _ _ _ => (pg_name (i := 1) sc_class_number.nd rfl (Or.inl rfl))) (fun _ _ _ _ _ => (pts_one (pt_cmpR op_eq (pe_cal c_told_content (hr.mono (by decide)) rfl (pa_cons (pv 1) pa_nil)) pe_int (nomark _)))) (fun _ _ _ _ _ => (pv 1))) pa_nil))))), ?_⟩
    walk_at "rd"
    refine ⟨v, rfl, ?_⟩
    rcases h with h | h | ⟨n, rfl, hd, hS, q⟩
    · exact .inl h
    · exact .inr (.inl h)
    · refine .inr (.inr ⟨n, rfl, hd, hS, fun H1 s1 => ⟨-n, by rw [Int.neg_neg], hS, fun ys us a H2 s2 na ha ht hs hperm => ?_⟩⟩)
      have hlen : ys.length ≤ 1200 * cnt (-n) := by
        rw [← ht.len, hperm.length_eq]
        exact hS.len _ (Nat.le_refl _)
      have hcn := hS.cnt
      try walk_at "rd"
      refine ⟨⟨_, SqL.of ha⟩, LcL.w (xs := ys) (fun i D zs H3 => zs.length = (prim (us.take i)).length ∧ H3 = upd H2 D (.lst zs) ∧ H2 D = none ∧ zs.length ≤ i) (fun D nD => ⟨rfl, rfl, nD, Nat.le_refl _⟩) ?_ ?_ ?_⟩
      · rintro D i zs H3 _ ⟨_, rfl, nD, _⟩
        exact SqL.of (by rw [upd_ne (ne_of_none ha nD)]; exact ha)
      · rintro D i v zs H3 hv ⟨ez, rfl, nD, hz⟩ N hN
        obtain ⟨r, x, y, z', rfl, hr3, hu⟩ := ht.get hv
        have hi : i < ys.length := (List.getElem?_eq_some_iff.mp hv).1
        walk_at "rd"
        refine ⟨r, x, y, z', rfl, by rw [upd_ne (ne_of_none hr3 nD)]; exact hr3, ?_⟩
        try walk_at "rd"
        refine ite2 (fun hg => ?_) (fun hg => ?_)
        · refine ⟨_, upd_same, small_size (by omega), hN _ _ ⟨?_, upd_upd, nD, ?_⟩⟩
          · rw [prim_yes hu hg, List.length_append, List.length_append, ez]
            rfl
          · rw [List.length_append, List.length_singleton]
            omega
        · exact hN _ _ ⟨by rw [prim_no hu hg]; exact ez, rfl, nD, by omega⟩
      · rintro D zs H3 nD ⟨ez, rfl, _, _⟩
        try walk_at "rd"
        refine ⟨zs.length, .inl ⟨_, SqL.of upd_same, rfl⟩, ?_⟩
        have e : zs.length = (prim (forms (-n))).length := by
          rw [ez, ← ht.len, List.take_length]
          exact (hperm.filter _).length_eq
        rw [e]
        exact q _ (s1.trans (s2.trans (same_upd nD)))
end

section
variable {P : Program} {w : World} {K : PySem.W.Frag} {mg : Str → Option Value} {base : Heap} {CM CR : Addr}
abbrev s__law_plain : Stmt := top 27
theorem sc__law_plain : FnScope ["value", "item"] ["value"] (defScope s__law_plain) := ⟨rfl, rfl, rfl, by decide +kernel, rfl, by decide +kernel, by decide +kernel⟩

def spPlainI : Sp := fun vs H Q _ => ∃ n : Int, vs = [.int n] ∧ Q (.int n) H
/-- an int, or a new tuple of the same triples -/
def spPlain1 : Sp := fun vs H Q _ => ∃ (r : Addr) (a b c : Int), vs = [.ref r] ∧ H r = some (.tup [.int a, .int b, .int c]) ∧ ∀ p H', Same H H' → H p = none → H' p = some (.tup [.int a, .int b, .int c]) → Q (.ref p) H'
def spPlain2 : Sp := fun vs H Q _ => ∃ v : V, vs = [v] ∧ ((∃ n : Int, v = .int n ∧ Q (.int n) H) ∨ ∃ (p : Addr) (ys : List V) (ts : List T3), v = .ref p ∧ H p = some (.tup ys) ∧ Trs H ys ts ∧ ys.length ≤ 1000000 ∧
  ∀ p' ys' H', Same H H' → H p' = none → H' p' = some (.tup ys') → Trs H' ys' ts → Q (.ref p') H')
theorem cal_plain (D : Dn K mg "_law_plain" s__law_plain ["value"]) (B : Bl mg) (c__law_whole : Cal P w K mg base "_law_whole" 1 ["value"] (spInt K)) : Cal P w K mg base "_law_plain" 2 ["value"] spPlainI := by
  refine D.cal sc__law_plain (fun vs H Q E h => ?_) (fun f cdv A outer s H vs Q E hr h => ?_)
  · obtain ⟨n, rfl, _⟩ := h
    rfl
  · obtain ⟨n, rfl, q⟩ := h
    refine ⟨_, (pss_cons (ps_if (pt_val (pe_callB call_isi rfl B.isinstance (by decide +kernel) (pa_cons (pv 0) (pa_cons (pe_bltn (v := .ty "tuple") rfl B.tuple boot_tuple rfl) pa_nil)))) pss_never pss_nil)
  (pss_one (ps_ret (pe_ifExp (PW.pt (pw_or (pt_cmpR op_isN (pv 0) pe_non (nomark _)) (pw_or1 (pt_val (pe_cal c__law_whole (hr.mono (by decide)) rfl (pa_cons (pv 0) pa_nil)))))) (pv 0) pe_str)))), ?_⟩
    walk_at "rd"
    refine isi_mk (.base (.int n)) (b := false) (by decide +kernel) ⟨false, rfl, ?_⟩
    rw [if_neg Bool.false_ne_true]
    refine ⟨.int n, "int", rfl, .base (.int n), by decide, true, rfl, ?_⟩
    rw [if_pos rfl]
    exact q
theorem cal_plain1 (D : Dn K mg "_law_plain" s__law_plain ["value"]) (B : Bl mg) (c__law_plain : Cal P w K mg base "_law_plain" 2 ["value"] spPlainI) (c__law_whole : Cal P w K mg base "_law_whole" 1 ["value"] (spInt K)) : Cal P w K mg base "_law_plain" 3 ["value"] spPlain1 := by
  refine D.cal sc__law_plain (fun vs H Q E h => ?_) (fun f cdv A outer s H vs Q E hr h => ?_)
  · obtain ⟨r, a, b, c, rfl, _⟩ := h
    rfl
  · obtain ⟨r, a, b, c, rfl, ht, q⟩ := h
    refine ⟨_, (pss_cons (ps_if (pt_val (pe_callB call_isi rfl B.isinstance (by decide +kernel) (pa_cons (pv 0) (pa_cons (pe_bltn (v := .ty "tuple") rfl B.tuple boot_tuple rfl) pa_nil)))) (pss_one (ps_ret (pe_callTy cr_tupOf rfl B.tuple boot_tuple (pa_cons (pe_lc (own := [("item", 1)]) rfl sc__law_plain.nd (pi_tup (pv 0)) (blkOk_by (N := ["value", "item"]) (sc := defScope s__law_plain) (own := [("item", 1)]) (by decide +kernel)) (fun _ _ _ _ _ => (pg_name (i := 1) sc__law_plain.nd rfl (Or.inl rfl))) (fun _ _ _ _ _ => pts_nil) (fun _ _ _ _ _ => (pe_cal c__law_plain (hr.mono (by decide)) rfl (pa_cons (pv 1) pa_nil)))) pa_nil)))) pss_nil)
  (pss_one (ps_ret (pe_ifExp (PW.pt (pw_or (pt_cmpR op_isN (pv 0) pe_non (nomark _)) (pw_or1 (pt_val (pe_cal c__law_whole (hr.mono (by decide)) rfl (pa_cons (pv 0) pa_nil)))))) (pv 0) pe_str)))), ?_⟩
    walk_at "rd"
    refine isi_mk (.base (.tup ht)) (b := true) (by decide +kernel) ⟨true, rfl, ?_⟩
    rw [if_pos rfl]
    refine ⟨⟨_, SqT.of ht⟩, LcT.w (xs := ([a, b, c] : List Int).map V.int) (fun i D zs H3 => zs = (([a, b, c] : List Int).take i).map V.int ∧ H3 = upd H D (.lst zs) ∧ H D = none) (fun D nD => ⟨rfl, rfl, nD⟩) ?_ ?_ ?_⟩
    · rintro D i zs H3 _ ⟨_, rfl, nD⟩
      exact SqT.of (by rw [upd_ne (ne_of_none ht nD)]; exact ht)
    · rintro D i v zs H3 hv ⟨rfl, rfl, nD⟩ N hN
      rw [List.getElem?_map] at hv
      obtain ⟨n, hn, rfl⟩ := Option.map_eq_some_iff.mp hv
      have hi : i < 3 := (List.getElem?_eq_some_iff.mp hn).1
      walk_at "rd"
      refine ⟨n, rfl, _, upd_same, ?_, hN _ _ ⟨?_, upd_upd, nD⟩⟩
      · rw [List.length_map, List.length_take]
        exact small_size (by omega)
      · rw [List.take_add_one, hn, List.map_append]
        rfl
    · rintro D zs H3 nD ⟨rfl, rfl, _⟩
      try walk_at "rd"
      refine ⟨_, .inl ⟨SqL.of upd_same, fun l nl => q l _ ((same_upd nD).trans (same_upd nl)) ((same_upd nD).free nl) upd_same⟩⟩
theorem cal_plain2 (D : Dn K mg "_law_plain" s__law_plain ["value"]) (B : Bl mg) (c__law_plain : Cal P w K mg base "_law_plain" 3 ["value"] spPlain1) (c__law_whole : Cal P w K mg base "_law_whole" 1 ["value"] (spInt K)) : Cal P w K mg base "_law_plain" 4 ["value"] spPlain2 := by
  refine D.cal sc__law_plain (fun vs H Q E h => ?_) (fun f cdv A outer s H vs Q E hr h => ?_)
  · obtain ⟨v, rfl, _⟩ := h
    rfl
  · obtain ⟨v, rfl, ⟨n, rfl, q⟩ | ⟨p, ys, ts, rfl, hp, ht, hl, q⟩⟩ := h
    · refine ⟨_, (pss_cons (ps_if (pt_val (pe_callB call_isi rfl B.isinstance (by decide +kernel) (pa_cons (pv 0) (pa_cons (pe_bltn (v := .ty "tuple") rfl B.tuple boot_tuple rfl) pa_nil)))) (pss_one (ps_ret (pe_callTy cr_tupOf rfl B.tuple boot_tuple (pa_cons (pe_lc (own := [("item", 1)]) rfl sc__law_plain.nd (pi_tup (pv 0)) (blkOk_by (N := ["value", "item"]) (sc := defScope s__law_plain) (own := [("item", 1)]) (by decide +kernel)) (fun _ _ _ _ _ => (pg_name (i := 1) sc__law_plain.nd rfl (Or.inl rfl))) (fun _ _ _ _ _ => pts_nil) (fun _ _ _ _ _ => (pe_cal c__law_plain (hr.mono (by decide)) rfl (pa_cons (pv 1) pa_nil)))) pa_nil)))) pss_nil)
  (pss_one (ps_ret (pe_ifExp (PW.pt (pw_or (pt_cmpR op_isN (pv 0) pe_non (nomark _)) (pw_or1 (pt_val (pe_cal c__law_whole (hr.mono (by decide)) rfl (pa_cons (pv 0) pa_nil)))))) (pv 0) pe_str)))), ?_⟩
      walk_at "rd"
      refine isi_mk (.base (.int n)) (b := false) (by decide +kernel) ⟨false, rfl, ?_⟩
      rw [if_neg Bool.false_ne_true]
      refine ⟨.int n, "int", rfl, .base (.int n), by decide, true, rfl, ?_⟩
      rw [if_pos rfl]
      exact q
    refine ⟨_, (pss_cons (ps_if (pt_val (pe_callB call_isi rfl B.isinstance (by decide +kernel) (pa_cons (pv 0) (pa_cons (pe_bltn (v := .ty "tuple") rfl B.tuple boot_tuple rfl) pa_nil)))) (pss_one (ps_ret (pe_callTy cr_tupOf rfl B.tuple boot_tuple (pa_cons (pe_lc (own := [("item", 1)]) rfl sc__law_plain.nd (pi_tup (pv 0)) (blkOk_by (N := ["value", "item"]) (sc := defScope s__law_plain) (own := [("item", 1)]) (by decide +kernel)) (fun _ _ _ _ _ => (pg_name (i := 1) sc__law_plain.nd rfl (Or.inl rfl))) (fun _ _ _ _ _ => pts_nil) (fun _ _ _ _ _ => (pe_cal c__law_plain (hr.mono (by decide)) rfl (pa_cons (pv 1) pa_nil)))) pa_nil)))) pss_nil)
  (pss_one (ps_ret (pe_ifExp (PW.pt (pw_or (pt_cmpR op_isN (pv 0) pe_non (nomark _)) (pw_or1 (pt_val (pe_cal c__law_whole (hr.mono (by decide)) rfl (pa_cons (pv 0) pa_nil)))))) (pv 0) pe_str)))), ?_⟩
    walk_at "rd"
    refine isi_mk (.base (.tup hp)) (b := true) (by decide +kernel) ⟨true, rfl, ?_⟩
    rw [if_pos rfl]
    refine ⟨⟨_, SqT.of hp⟩, LcT.w (xs := ys) (fun i D zs H3 => zs.length = i ∧ Same H H3 ∧ H3 D = some (.lst zs) ∧ H D = none ∧ Trs H3 zs (ts.take i)) (fun D nD => ⟨rfl, same_upd nD, upd_same, nD, Trs.nil⟩) ?_ ?_ ?_⟩
    · rintro D i zs H3 _ ⟨_, sm, _, _, _⟩
      exact SqT.of (sm _ _ hp)
    · rintro D i v zs H3 hv ⟨hz, sm, hD, nD, hT⟩ N hN
      obtain ⟨r, x, y, z', rfl, hr3, hu⟩ := ht.get hv
      have hi : i < ys.length := (List.getElem?_eq_some_iff.mp hv).1
      walk_at "rd"
      refine ⟨r, x, y, z', rfl, sm _ _ hr3, fun p' H4 s4 np hp4 => ⟨zs, s4 _ _ hD, small_size (by omega), hN _ _ ⟨by rw [List.length_append, hz]; rfl, same_at (sm.trans s4) nD, upd_same, nD, ?_⟩⟩⟩
      rw [List.take_add_one, hu]
      exact ((hT.same s4).snoc hp4).updL (s4 _ _ hD)
    · rintro D zs H3 nD ⟨hz, sm, hD, _, hT⟩
      try walk_at "rd"
      rw [← ht.len, List.take_length] at hT
      refine ⟨_, .inl ⟨SqL.of hD, fun l nl => q l zs _ (sm.trans (same_upd nl)) (sm.free nl) upd_same (hT.updN nl)⟩⟩
abbrev s__law_no_word : Stmt := top 24
theorem sc__law_no_word : FnScope ["value"] ["value"] (defScope s__law_no_word) := ⟨rfl, rfl, rfl, by decide +kernel, rfl, by decide +kernel, by decide +kernel⟩

def spNoWord (K : PySem.W.Frag) : Sp := fun vs H Q _ => ∃ (v : V) (T : String), vs = [v] ∧ TyX K H v (.type T) ∧ T ∈ kinds ∧ (T == "str") = false ∧ Q v H
theorem cal_no_word (D : Dn K mg "_law_no_word" s__law_no_word ["value"]) (B : Bl mg) : Cal P w K mg base "_law_no_word" 1 ["value"] (spNoWord K) := by
  refine D.cal sc__law_no_word (fun vs H Q E h => ?_) (fun f cdv A outer s H vs Q E hr h => ?_)
  · obtain ⟨v, T, rfl, _⟩ := h
    rfl
  · obtain ⟨v, T, rfl, ty, hT, hs, q⟩ := h
    refine ⟨_, (pss_one (ps_ret (pe_ifExp (pt_val (pe_callB call_isi rfl B.isinstance (by decide +kernel) (pa_cons (pv 0) (pa_cons (pe_bltn (v := .ty "str") rfl B.str boot_str rfl) pa_nil)))) pe_str (pv 0)))), ?_⟩
    walk_at "rd"
    refine isi_mk ty (kit_k hT (by simp)) ⟨false, ?_, ?_⟩
    · rw [hs, show ("str" == "int") = false by decide, Bool.and_false, Bool.or_false]
    rw [if_neg Bool.false_ne_true]
    exact q
/-! ### the law's divisors, contents, discriminants -/
abbrev s__law_common : Stmt := top 29
theorem sc__law_common : FnScope ["a", "b"] ["a", "b"] (defScope s__law_common) := ⟨rfl, rfl, rfl, by decide +kernel, rfl, by decide +kernel, by decide +kernel⟩

def spComm : Sp := fun vs H Q _ => ∃ a b : Int, vs = [.int a, .int b] ∧ Q (.int ((Nat.gcd a.natAbs b.natAbs : Nat) : Int)) H
theorem iabs (i : Int) : (if i < 0 then -i else i) = (i.natAbs : Int) := by
  split <;> omega
theorem cal_common (D : Dn K mg "_law_common" s__law_common ["a", "b"]) (B : Bl mg) : Cal P w K mg base "_law_common" 1 ["a", "b"] spComm := by
  refine D.cal sc__law_common (fun vs H Q E h => ?_) (fun f cdv A outer s H vs Q E hr h => ?_)
  · obtain ⟨a, b, rfl, _⟩ := h
    rfl
  · obtain ⟨a, b, rfl, q⟩ := h
    refine ⟨_, (pss_cons (ps_par (i := 0) (j := 1) rfl sc__law_common.nd rfl rfl (by decide) rfl rfl (pa_cons (pe_callB call_abs rfl B.abs (by decide +kernel) (pa_cons (pv 0) pa_nil)) (pa_cons (pe_callB call_abs rfl B.abs (by decide +kernel) (pa_cons (pv 1) pa_nil)) pa_nil)) (by rfl))
  (pss_cons (ps_while PassesOwn.never (pt_cmpR op_gt (pv 1) pe_int (nomark _)) (pss_one (ps_par (i := 0) (j := 1) rfl sc__law_common.nd rfl rfl (by decide) rfl rfl (pa_cons (pv 1) (pa_cons (pe_op op_mod (pe_callTy call_int1 rfl B.int boot_int (pa_cons (pv 0) pa_nil)) (pv 1)) pa_nil)) (by rfl))))
  (pss_one (ps_ret (pv 0))))), ?_⟩
    walk_at "rd"
    rw [iabs, iabs]
    refine while_w (fun σ H' => ∃ x y : Nat, σ = [some (.int x), some (.int y)] ∧ H' = H ∧ Nat.gcd x y = Nat.gcd a.natAbs b.natAbs) (fun σ _ => match σ with | [_, some (.int y)] => y.toNat | _ => 0) ⟨_, _, rfl, rfl, rfl⟩ ?_
    rintro σ H' ⟨x, y, rfl, rfl, hg⟩ N hN
    refine ⟨decide (0 < (y : Int)), fun Q' q' => ?_, fun hb => ?_, fun hb => ?_⟩
    · walk_at "rd"
      exact q'
    · have hy : 0 < y := by
        have := of_decide_eq_true hb
        omega
      walk_at "rd"
      refine ⟨by omega, hN _ _ ⟨y, x % y, by rw [Int.natCast_emod], rfl, ?_⟩ ?_⟩
      · rw [← hg, Nat.gcd_comm x y, Nat.gcd_rec y x, Nat.gcd_comm]
      · show ((x : Int) % (y : Int)).toNat < (y : Int).toNat
        have := Nat.mod_lt x hy
        rw [← Int.natCast_emod]
        omega
    · have hy : y = 0 := by
        have := of_decide_eq_false hb
        omega
      subst hy
      walk_at "rd"
      rw [Nat.gcd_zero_right] at hg
      rw [hg]
      exact q
abbrev s__law_content : Stmt := top 30
theorem sc__law_content : FnScope ["f"] ["f"] (defScope s__law_content) := ⟨rfl, rfl, rfl, by decide +kernel, rfl, by decide +kernel, by decide +kernel⟩

theorem cal_lcontent (D : Dn K mg "_law_content" s__law_content ["f"]) (B : Bl mg) (c__law_common : Cal P w K mg base "_law_common" 1 ["a", "b"] spComm) : Cal P w K mg base "_law_content" 2 ["f"] spCont := by
  refine D.cal sc__law_content (fun vs H Q E h => ?_) (fun f cdv A outer s H vs Q E hr h => ?_)
  · obtain ⟨r, a, b, c, rfl, _⟩ := h
    rfl
  · obtain ⟨r, a, b, c, rfl, ht, q⟩ := h
    refine ⟨_, (pss_one (ps_ret (pe_cal c__law_common (hr.mono (by decide)) rfl (pa_cons (pe_cal c__law_common (hr.mono (by decide)) rfl (pa_cons (pe_ix ix_tup (pv 0) pe_int (fun _ _ => rfl)) (pa_cons (pe_ix ix_tup (pv 0) pe_int (fun _ _ => rfl)) pa_nil))) (pa_cons (pe_ix ix_tup (pv 0) pe_int (fun _ _ => rfl)) pa_nil))))), ?_⟩
    walk_at "rd"
    refine ⟨_, SqT.of ht, _, rfl, _, SqT.of ht, _, rfl, a, b, rfl, _, SqT.of ht, _, rfl, _, c, rfl, q⟩
abbrev s__law_is_told_disc : Stmt := top 33
theorem sc__law_is_told_disc : FnScope ["d"] ["d"] (defScope s__law_is_told_disc) := ⟨rfl, rfl, rfl, by decide +kernel, rfl, by decide +kernel, by decide +kernel⟩

def spTD : Sp := fun vs H Q _ => ∃ n : Int, vs = [.int n] ∧ n < BIG ∧ Q (.bl (discB n)) H
theorem discB_neg {n : Int} (h : n < 0) : discB n = decide (n % 4 < 2) := by
  unfold discB
  rw [isq_neg h]
  by_cases c : n % 4 < 2
  · rw [decide_eq_true c, decide_eq_true (by omega)]
    rfl
  · rw [decide_eq_false c, decide_eq_false (by omega)]
    rfl
theorem cal_td (D : Dn K mg "_law_is_told_disc" s__law_is_told_disc ["d"]) (B : Bl mg) (c__law_whole : Cal P w K mg base "_law_whole" 1 ["value"] (spInt K)) (c__law_root : Cal P w K mg base "_law_root" 1 ["n"] spLawRoot) : Cal P w K mg base "_law_is_told_disc" 2 ["d"] spTD := by
  refine D.cal sc__law_is_told_disc (fun vs H Q E h => ?_) (fun f cdv A outer s H vs Q E hr h => ?_)
  · obtain ⟨n, rfl, _⟩ := h
    rfl
  · obtain ⟨n, rfl, hn, q⟩ := h
    refine ⟨_, (pss_one (ps_ret (pe_and (pe_cal c__law_whole (hr.mono (by decide)) rfl (pa_cons (pv 0) pa_nil)) (pe_and (pe_cmpR op_lt (pe_op op_mod (pe_callTy call_int1 rfl B.int boot_int (pa_cons (pv 0) pa_nil)) pe_int) pe_int (nomark _)) (pe_and (pe_cmpR op_ne (pv 0) pe_int (nomark _)) (pe_one (pe_or (pe_cmpR op_lt (pv 0) pe_int (nomark _)) (pe_one (pe_cmpR op_ne (pe_op op_powI (pe_cal c__law_root (hr.mono (by decide)) rfl (pa_cons (pv 0) pa_nil)) pe_int) (pv 0) (nomark _)))))))))), ?_⟩
    walk_at "rd"
    refine ⟨.int n, "int", rfl, .base (.int n), by decide, true, rfl, ?_⟩
    rw [if_pos rfl]
    refine ⟨by decide, ite2 (fun c1 => ?_) (fun c1 => ?_)⟩
    · refine ite2 (fun c2 => ?_) (fun c2 => ?_)
      · subst c2
        exact q
      · refine ite2 (fun c3 => ?_) (fun c3 => ⟨n, rfl, by omega, hn, ?_⟩)
        · rw [discB_neg c3, decide_eq_true c1] at q
          exact q
        · try walk_at "rd"
          refine ⟨powI (n := 3004) (isq_big (by omega) hn) (by decide) (by decide) (by decide), ?_⟩
          have e : (!decide (isq n ^ (2 : Int).toNat = n)) = discB n := by
            unfold discB sqB
            rw [decide_eq_true (show n % 4 = 0 ∨ n % 4 = 1 by omega), Bool.true_and, show (2 : Int).toNat = 2 from rfl, Int.pow_succ, Int.pow_succ, Int.pow_zero, Int.one_mul]
            by_cases c : isq n * isq n = n
            · rw [decide_eq_true c, decide_eq_true ⟨by omega, c⟩]
            · rw [decide_eq_false c, decide_eq_false fun z => c z.2]
          show Q (.bl (!decide (isq n ^ (2 : Int).toNat = n))) H
          rw [e]
          exact q
    · have e : discB n = false := by
        unfold discB
        rw [decide_eq_false (by omega)]
        rfl
      rw [e] at q
      exact q
abbrev s__law_drawn_disc : Stmt := top 34
theorem sc__law_drawn_disc : FnScope ["state", "most", "sign", "d", "turn"] ["state", "most", "sign"] (defScope s__law_drawn_disc) := ⟨rfl, rfl, rfl, by decide +kernel, rfl, by decide +kernel, by decide +kernel⟩

def spDD : Sp := fun vs H Q _ => ∃ (st : Addr) (x y m : Int), vs = [.ref st, .int m, .int (-1)] ∧ H st = some (.lst [.int x, .int y]) ∧ 2 < m ∧ m < 100000000000 ∧
  ∀ d x' y' : Int, 3 ≤ d → d ≤ m + 6 → Q (.int (-d)) (upd H st (.lst [.int x', .int y']))
theorem cal_dd (D : Dn K mg "_law_drawn_disc" s__law_drawn_disc ["state", "most", "sign"]) (B : Bl mg) (c__law_take : Cal P w K mg base "_law_take" 1 ["state", "m"] spTake) (c__law_is_told_disc : Cal P w K mg base "_law_is_told_disc" 2 ["d"] spTD) :
    Cal P w K mg base "_law_drawn_disc" 3 ["state", "most", "sign"] spDD := by
  refine D.cal sc__law_drawn_disc (fun vs H Q E h => ?_) (fun f cdv A outer s H vs Q E hr h => ?_)
  · obtain ⟨st, x, y, m, rfl, _⟩ := h
    rfl
  · obtain ⟨st, x, y, m, rfl, hst, hm, hm2, q⟩ := h
    have hB := BIG_pos
    refine ⟨_, (pss_cons (ps_set (i := 3) sc__law_drawn_disc.nd rfl (Or.inl rfl) (pe_op op_add pe_int (pe_cal c__law_take (hr.mono (by decide)) rfl (pa_cons (pv 0) (pa_cons (pe_op op_sub (pv 1) pe_int) pa_nil)))))
  (pss_cons (ps_for PassesOwn.never rfl (pi_range1 rfl B.range (pa_cons pe_int pa_nil)) (pg_name (i := 4) sc__law_drawn_disc.nd rfl (Or.inl rfl)) (pss_one (ps_if (pt_not (pt_val (pe_cal c__law_is_told_disc (hr.mono (by decide)) rfl (pa_cons (pe_op op_mulI (pv 2) (pv 3)) pa_nil)))) (pss_one (ps_set (i := 3) sc__law_drawn_disc.nd rfl (Or.inl rfl) (pe_op op_add (pv 3) pe_int))) pss_nil)))
  (pss_one (ps_ret (pe_op op_mulI (pv 2) (pv 3)))))), ?_⟩
    walk_at "rd"
    refine ⟨st, x, y, m - 2, rfl, hst, by omega, Nat.lt_of_le_of_lt (log_lt (k := 63) (by show (m - 2).natAbs < 2 ^ 64; omega)) (by decide), fun v x1 y1 v0 v1 => ?_⟩
    try walk_at "rd"
    refine ⟨by decide, by decide, ForR.w (fun i σ H1 => i ≤ 6 ∧ ∃ d s4, σ = [some (.ref st), some (.int m), some (.int (-1)), some (.int d), s4] ∧ H1 = upd H st (.lst [.int x1, .int y1]) ∧ 3 ≤ d ∧ d ≤ m + i) ⟨by decide, _, _, rfl, rfl, by omega, by omega⟩ ?_ ?_⟩
    · rintro i σ H1 hi ⟨hi6, d, s4, rfl, rfl, d3, dm⟩ N hN
      have hi' : i < 6 := hi
      walk_at "rd"
      refine ⟨mulL (by decide), -1 * d, rfl, by omega, ?_⟩
      refine ⟨_, rfl, ite2 (fun c => ?_) (fun c => ?_)⟩
      · exact hN _ _ ⟨by omega, d + 1, _, rfl, rfl, by omega, by omega⟩
      · exact hN _ _ ⟨by omega, d, _, rfl, rfl, by omega, by omega⟩
    · rintro σ H1 ⟨_, d, s4, rfl, rfl, d3, dm⟩
      walk_at "rd"
      refine ⟨mulL (by decide), ?_⟩
      rw [show -1 * d = -d by omega]
      exact q d x1 y1 d3 (by have e6 : ((6 : Int).toNat : Int) = 6 := rfl; omega)
end

section
variable {P : Program} {w : World} {K : PySem.W.Frag} {mg : Str → Option Value} {base : Heap} {CM CR : Addr}
abbrev s__law_told : Stmt := top 35
theorem sc__law_told : FnScope ["which", "d", "e"] ["which", "d"] (defScope s__law_told) := ⟨rfl, rfl, rfl, by decide +kernel, rfl, by decide +kernel, by decide +kernel⟩

def spTold (K : PySem.W.Frag) : Sp := fun vs H Q _ => ∃ (wh : Int) (v : V), vs = [.int wh, v] ∧ (wh = 0 ∨ wh = 1) ∧
  ((Bad K H v ∧ ∀ H', Same H H' → Q (.str "malformed") H') ∨
   (∃ n : Int, v = .int n ∧ discB n = true ∧ n < -1000000 ∧ ∀ H', Same H H' → Q (.str "large") H') ∨
   (∃ n : Int, v = .int n ∧ discB n = true ∧ Sm (-n) ∧ ((wh = 0 ∧ GotTup H (-n) Q) ∨ (wh = 1 ∧ ∀ H', Same H H' → Q (.int ((prim (forms (-n))).length : Nat)) H'))))
theorem cal_told (D : Dn K mg "_law_told" s__law_told ["which", "d"]) (B : Bl mg) (c_reduced_forms : CalX P w K mg base "reduced_forms" 5 ["D"] (spRF K CM CR)) (c_class_number : CalX P w K mg base "class_number" 5 ["D"] (spCN K CM CR))
    (c__law_plain : Cal P w K mg base "_law_plain" 4 ["value"] spPlain2) (c__law_no_word : Cal P w K mg base "_law_no_word" 1 ["value"] (spNoWord K)) (e_E : ErrI P w K mg base CM CR) : Cal P w K mg base "_law_told" 6 ["which", "d"] (spTold K) := by
  refine D.cal sc__law_told (fun vs H Q E h => ?_) (fun f cdv A outer s H vs Q E hr h => ?_)
  · obtain ⟨wh, v, rfl, _⟩ := h
    rfl
  · obtain ⟨wh, v, rfl, hw, h⟩ := h
    obtain ⟨fI, fdI, R, _, _⟩ := e_E.r
    have word : ∀ (T : String) (v' : V) (H' : Hp) (E' : XK), TyX K H' v' (.type T) → T ∈ kinds → (T == "str") = false → Q v' H' → spNoWord K [v'] H' Q E' := fun T v' H' E' ty hT hs q => ⟨v', T, rfl, ty, hT, hs, q⟩
    refine ⟨_, (pss_one (ps_tryA rfl rfl sc__law_told.nd takes0 (fun W pn xe tk _ => (pss_one (ps_ret (pe_cal c__law_no_word (hr.mono (by decide)) rfl (pa_cons (pe_ifExp (pt_cmpR op_eq (pv 0) pe_int (nomark _)) (pe_cal c__law_plain (hr.mono (by decide)) rfl (pa_cons (pe_calS c_reduced_forms tk (hr.mono (by decide)) rfl (pa_cons (pv 1) pa_nil)) pa_nil)) (pe_cal c__law_plain (hr.mono (by decide)) rfl (pa_cons (pe_calS c_class_number tk (hr.mono (by decide)) rfl (pa_cons (pv 1) pa_nil)) pa_nil))) pa_nil))))) (HdA.bare ⟨rfl, by decide, .inl e_E.m.g⟩ (fun a oe cls d pn _ _ => (pss_one (ps_ret pe_str))) (HdA.named ⟨rfl, by decide, .inl R.g⟩ (i := 2) rfl rfl (fun a oe cls d pn hz hf => (pss_one (ps_ret (pe_xf R.xf R.n hz hf (pv 2))))) HdA.nil)))), ?_⟩
    walk_at "rd"
    rcases h with ⟨hb, q⟩ | ⟨n, rfl, hd, hn, q⟩ | ⟨n, rfl, hd, hS, q⟩
    · refine ite2 (fun _ => ⟨v, rfl, .inl ⟨hb, fun H' sm => ⟨true, e_E.m.mm, fun _ a na => ?_, fun z => by cases z⟩⟩⟩) (fun _ => ⟨v, rfl, .inl ⟨hb, fun H' sm => ⟨true, e_E.m.mm, fun _ a na => ?_, fun z => by cases z⟩⟩⟩)
      · exact q H' sm
      · exact q H' sm
    · refine ite2 (fun _ => ⟨_, rfl, .inr (.inl ⟨n, rfl, hd, hn, fun d H' sm nd hx => ⟨false, R.rm, fun z => (by cases z), fun _ => ⟨true, R.rr, fun _ a na => ?_, fun z => by cases z⟩⟩⟩)⟩) (fun _ => ⟨_, rfl, .inr (.inl ⟨n, rfl, hd, hn, fun d H' sm nd hx => ⟨false, R.rm, fun z => (by cases z), fun _ => ⟨true, R.rr, fun _ a na => ?_, fun z => by cases z⟩⟩⟩)⟩)
      · exact ⟨_, rfl, rfl, rfl, d, _, _, rfl, hx, rfl, q H' sm⟩
      · exact ⟨_, rfl, rfl, rfl, d, _, _, rfl, hx, rfl, q H' sm⟩
    · have hcn := hS.cnt
      refine ite2 (fun c => ⟨_, rfl, .inr (.inr ⟨n, rfl, hd, hS, ?_⟩)⟩) (fun c => ⟨_, rfl, .inr (.inr ⟨n, rfl, hd, hS, ?_⟩)⟩)
      · rcases q with ⟨_, q⟩ | ⟨e, _⟩
        · intro ys us p H1 s1 np hp ht hs hperm
          have hlen : ys.length ≤ 1200 * cnt (-n) := by
            rw [← ht.len, hperm.length_eq]
            exact hS.len _ (Nat.le_refl _)
          refine ⟨_, rfl, .inr ⟨p, ys, us, rfl, hp, ht, by omega, fun p' ys' H2 s2 np' hp' ht' => ?_⟩⟩
          exact word "tuple" _ _ _ (.base (.tup hp')) (by decide) (by decide) (q ys' us p' H2 (s1.trans s2) (s1.free np') hp' ht' hs hperm)
        · omega
      · rcases q with ⟨e, _⟩ | ⟨_, q⟩
        · exact absurd e c
        · intro H1 s1
          exact ⟨_, rfl, .inl ⟨_, rfl, word "int" _ _ _ (.base (.int _)) (by decide) (by decide) (q H1 s1)⟩⟩
end

section
variable {P : Program} {w : World} {K : PySem.W.Frag} {mg : Str → Option Value} {base : Heap} {CM CR : Addr}
abbrev s_law : Stmt := top 36
theorem sc_law : FnScope ["script", "state", "d", "due", "far", "bad", "which", "f"] ["script"] (defScope s_law) := ⟨rfl, rfl, rfl, by decide +kernel, rfl, by decide +kernel, by decide +kernel⟩

def spLaw (K : PySem.W.Frag) : Sp := fun vs H Q _ => ∃ (a : Addr) (ns : List Int), vs = [.ref a] ∧ SqL K H a (ns.map V.int) ∧ ns.length ≤ 63 ∧ ∀ H', Q (.bl true) H'
theorem ok_law {f : Addr} {fd : FuncData} (F : Fun K "law" "law" s_law f fd) (B : Bl mg) (c__law_state : Cal P w K mg base "_law_state" 1 ["script"] (spState K)) (c__law_take : Cal P w K mg base "_law_take" 1 ["state", "m"] spTake)
    (c__law_told : Cal P w K mg base "_law_told" 6 ["which", "d"] (spTold K)) (c__law_drawn_disc : Cal P w K mg base "_law_drawn_disc" 3 ["state", "most", "sign"] spDD) (c__law_is_told_disc : Cal P w K mg base "_law_is_told_disc" 2 ["d"] spTD)
    (c__law_all_reduced : Cal P w K mg base "_law_all_reduced" 2 ["n"] spReduced) (c__law_content : Cal P w K mg base "_law_content" 2 ["f"] spCont) : FnOk P w K mg base CX0 7 f fd ["script"] (spLaw K) := by
  refine F.ok sc_law (fun vs H Q E h => ?_) (fun cdv A outer s H vs Q E hr h => ?_)
  · obtain ⟨a, ns, rfl, _⟩ := h
    rfl
  · obtain ⟨a, ns, rfl, hS, hl, q⟩ := h
    have hB := BIG_pos
    refine ⟨_, (pss_cons (ps_set (i := 1) sc_law.nd rfl (Or.inl rfl) (pe_cal c__law_state (hr.mono (by decide)) rfl (pa_cons (pv 0) pa_nil)))
  (pss_cons (ps_set (i := 2) sc_law.nd rfl (Or.inl rfl) (pe_cal c__law_drawn_disc (hr.mono (by decide)) rfl (pa_cons (pv 1) (pa_cons (pe_ix ix_list (pe_lst (pa_cons pe_int (pa_cons pe_int (pa_cons pe_int (pa_cons pe_int pa_nil))))) (pe_cal c__law_take (hr.mono (by decide)) rfl (pa_cons (pv 1) (pa_cons pe_int pa_nil))) (fun _ _ => rfl)) (pa_cons (pe_un un_neg pe_int) pa_nil)))))
  (pss_cons (ps_if (pt_cmpR op_eq (pe_cal c__law_take (hr.mono (by decide)) rfl (pa_cons (pv 1) (pa_cons pe_int pa_nil))) pe_int (nomark _)) (pss_one (ps_set (i := 2) sc_law.nd rfl (Or.inl rfl) (pe_op op_mulI (pe_ix ix_list (pe_lst (pa_cons (pe_un un_neg pe_int) (pa_cons (pe_un un_neg pe_int) (pa_cons (pe_un un_neg pe_int) (pa_cons (pe_un un_neg pe_int) (pa_cons (pe_un un_neg pe_int) (pa_cons (pe_un un_neg pe_int) (pa_cons (pe_un un_neg pe_int) (pa_cons (pe_un un_neg pe_int) pa_nil))))))))) (pe_cal c__law_take (hr.mono (by decide)) rfl (pa_cons (pv 1) (pa_cons pe_int pa_nil))) (fun _ _ => rfl)) (pe_op op_powI (pe_op op_add pe_int (pe_cal c__law_take (hr.mono (by decide)) rfl (pa_cons (pv 1) (pa_cons pe_int pa_nil)))) pe_int)))) pss_nil)
  (pss_cons (ps_if (PW.pt (pw_or (pt_cmpR op_lt (pv 2) (pe_un un_neg pe_int) (nomark _)) (pw_or1 (pt_not (pt_val (pe_cal c__law_is_told_disc (hr.mono (by decide)) rfl (pa_cons (pv 2) pa_nil))))))) (pss_one (ps_set (i := 2) sc_law.nd rfl (Or.inl rfl) (pe_un un_neg pe_int))) pss_nil)
  (pss_cons (ps_set (i := 3) sc_law.nd rfl (Or.inl rfl) (pe_cal c__law_all_reduced (hr.mono (by decide)) rfl (pa_cons (pe_un un_neg (pv 2)) pa_nil)))
  (pss_cons (ps_if (pt_cmpR (op_neD hr.units) (pe_cal c__law_told (hr.mono (by decide)) rfl (pa_cons pe_int (pa_cons (pv 2) pa_nil))) (pe_callTy cr_tupOf rfl B.tuple boot_tuple (pa_cons (pv 3) pa_nil)) (nomark _)) (pss_one (ps_ret pe_bl)) pss_nil)
  (pss_cons (ps_if (pt_cmpR op_ne (pe_cal c__law_told (hr.mono (by decide)) rfl (pa_cons pe_int (pa_cons (pv 2) pa_nil))) (pe_callB cr_lenS rfl B.len (by decide +kernel) (pa_cons (pe_lc (own := [("f", 7)]) rfl sc_law.nd (pi_list (pv 3)) (blkOk_by (N := ["script", "state", "d", "due", "far", "bad", "which", "f"]) (sc := defScope s_law) (own := [("f", 7)]) (by decide +kernel)) (fun _ _ _ _ _ => (pg_name (i := 7) sc_law.nd rfl (Or.inl rfl))) (fun _ _ _ _ _ => (pts_one (pt_cmpR op_eq (pe_cal c__law_content (hr.mono (by decide)) rfl (pa_cons (pv 7) pa_nil)) pe_int (nomark _)))) (fun _ _ _ _ _ => (pv 7))) pa_nil)) (nomark _)) (pss_one (ps_ret pe_bl)) pss_nil)
  (pss_cons (ps_for PassesOwn.never rfl (pi_tup (pe_tup (pa_cons (pe_un un_neg pe_int) (pa_cons (pe_un un_neg pe_int) (pa_cons (pe_un un_neg (pe_op op_powI pe_int pe_int)) pa_nil))))) (pg_name (i := 4) sc_law.nd rfl (Or.inr rfl)) (pss_one (ps_if (pt_cmpR (op_neD hr.units) (pe_lc (own := [("which", 6)]) rfl sc_law.nd (pi_tup (pe_tup (pa_cons pe_int (pa_cons pe_int pa_nil)))) (blkOk_by (N := ["script", "state", "d", "due", "far", "bad", "which", "f"]) (sc := defScope s_law) (own := [("which", 6)]) (by decide +kernel)) (fun _ _ _ _ _ => (pg_name (i := 6) sc_law.nd rfl (Or.inl rfl))) (fun _ _ _ _ _ => pts_nil) (fun _ _ _ _ _ => (pe_cal c__law_told (hr.mono (by decide)) rfl (pa_cons (pv 6) (pa_cons (pv 4) pa_nil))))) (pe_op op_rep (pe_lst (pa_cons pe_str pa_nil)) pe_int) (nomark _)) (pss_one (ps_ret pe_bl)) pss_nil)))
  (pss_cons (ps_set (i := 5) sc_law.nd rfl (Or.inr rfl) (pe_ix ix_list (pe_lst (pa_cons pe_non (pa_cons pe_bl (pa_cons pe_str (pa_cons (pe_tup (pa_cons pe_int (pa_cons pe_int (pa_cons pe_int pa_nil)))) (pa_cons pe_int (pa_cons (pe_un un_neg pe_int) (pa_cons (pe_un un_neg pe_int) (pa_cons (pe_op op_mulI (pe_un un_neg pe_int) pe_int) (pa_cons pe_int (pa_cons pe_int (pa_cons pe_int (pa_cons pe_int (pa_cons (pe_op op_add (pe_op op_powI pe_int pe_int) pe_int) pa_nil)))))))))))))) (pe_cal c__law_take (hr.mono (by decide)) rfl (pa_cons (pv 1) (pa_cons pe_int pa_nil))) (fun _ _ => rfl)))
  (pss_one (ps_ret (pe_cmpR (op_eqD hr.units) (pe_lc (own := [("which", 6)]) rfl sc_law.nd (pi_tup (pe_tup (pa_cons pe_int (pa_cons pe_int pa_nil)))) (blkOk_by (N := ["script", "state", "d", "due", "far", "bad", "which", "f"]) (sc := defScope s_law) (own := [("which", 6)]) (by decide +kernel)) (fun _ _ _ _ _ => (pg_name (i := 6) sc_law.nd rfl (Or.inl rfl))) (fun _ _ _ _ _ => pts_nil) (fun _ _ _ _ _ => (pe_cal c__law_told (hr.mono (by decide)) rfl (pa_cons (pv 6) (pa_cons (pv 5) pa_nil))))) (pe_op op_rep (pe_lst (pa_cons pe_str pa_nil)) pe_int) (nomark _))))))))))))), ?_⟩
    rw [CB.rd_seq]
    walk_at "rs"
    refine ⟨a, ns, rfl, hS, hl, fun st x y H1 sm1 nst hst => ?_⟩
    refine seq_cut (fun σ H => ∃ d x y : Int, σ = [some (.ref a), some (.ref st), some (.int d), none, none, none, none, none] ∧ H st = some (.lst [.int x, .int y]) ∧ d < 0 ∧ -1000006 ≤ d) (fun R hR => ?_) ?_
    · walk_at "rs"
      refine ⟨by decide, fun p np => ?_⟩
      have sp : st ≠ p := ne_of_none hst np
      refine ⟨st, x, y, 4, rfl, by rw [upd_ne sp]; exact hst, by decide, by decide +kernel, fun v x1 y1 v0 v1 => ?_⟩
      have pick : ∃ m : Int, 2 < m ∧ m ≤ 1000000 ∧ atI [V.int 3000, V.int 3000, V.int 3000, V.int 1000000] v = some (.int m) := by
        have c : v = 0 ∨ v = 1 ∨ v = 2 ∨ v = 3 := by omega
        rcases c with rfl | rfl | rfl | rfl
        · exact ⟨3000, by decide, by decide, rfl⟩
        · exact ⟨3000, by decide, by decide, rfl⟩
        · exact ⟨3000, by decide, by decide, rfl⟩
        · exact ⟨1000000, by decide, by decide, rfl⟩
      obtain ⟨m, m2, m3, em⟩ := pick
      refine ⟨_, v, rfl, SqL.of (by rw [upd_ne sp.symm, upd_same]), _, em, st, x1, y1, m, rfl, upd_same, m2, by omega, fun d x2 y2 d3 dm => ?_⟩
      exact hR _ _ ⟨-d, x2, y2, rfl, upd_same, by omega, by omega⟩
    rintro σ H2 ⟨d, x2, y2, rfl, h2, d0, d1⟩
    refine seq_cut (fun σ H => ∃ d x y : Int, σ = [some (.ref a), some (.ref st), some (.int d), none, none, none, none, none] ∧ H st = some (.lst [.int x, .int y]) ∧ d < 0 ∧ -1000006 ≤ d) (fun R hR => ?_) ?_
    · walk_at "rs"
      refine ⟨st, x2, y2, 6, rfl, h2, by decide, by decide +kernel, fun v x3 y3 v0 v1 => ?_⟩
      try walk_at "rs"
      refine ite2 (fun _ => ⟨by decide, fun p np => ?_⟩) (fun _ => hR _ _ ⟨d, x3, y3, rfl, upd_same, d0, d1⟩)
      have e3 : (upd H2 st (.lst [V.int x3, V.int y3])) st = some (.lst [V.int x3, V.int y3]) := upd_same
      generalize upd H2 st (.lst [V.int x3, V.int y3]) = H3 at *
      have sp : st ≠ p := ne_of_none e3 np
      refine ⟨st, x3, y3, 8, rfl, by rw [upd_ne sp]; exact e3, by decide, by decide +kernel, fun v2 x4 y4 v20 v21 => ?_⟩
      have pick : ∃ m : Int, m < 0 ∧ -23 ≤ m ∧ atI [V.int (-3), V.int (-4), V.int (-7), V.int (-8), V.int (-11), V.int (-15), V.int (-20), V.int (-23)] v2 = some (.int m) := by
        have c : v2 = 0 ∨ v2 = 1 ∨ v2 = 2 ∨ v2 = 3 ∨ v2 = 4 ∨ v2 = 5 ∨ v2 = 6 ∨ v2 = 7 := by omega
        rcases c with rfl | rfl | rfl | rfl | rfl | rfl | rfl | rfl <;> exact ⟨_, by decide, by decide, rfl⟩
      obtain ⟨m, m2, m3, em⟩ := pick
      refine ⟨_, v2, rfl, SqL.of (by rw [upd_ne sp.symm, upd_same]), _, em, st, x4, y4, 30, rfl, upd_same, by decide, by decide +kernel, fun k x5 y5 k0 k1 => ?_⟩
      have ek : (1 + k) ^ (2 : Int).toNat = (1 + k) * (1 + k) := by
        rw [show (2 : Int).toNat = 2 from rfl, Int.pow_succ, Int.pow_succ, Int.pow_zero, Int.one_mul]
      have kk : (1 + k) * (1 + k) ≤ 30 * 30 := Int.mul_le_mul (by omega) (by omega) (by omega) (by decide)
      have k1' : 1 * 1 ≤ (1 + k) * (1 + k) := Int.mul_le_mul (by omega) (by omega) (by decide) (by omega)
      refine ⟨_, rfl, powI (n := 64) (by omega) (by decide) (by decide) (by decide), m, rfl, mulL (by omega), hR _ _ ⟨_, x5, y5, rfl, upd_same, ?_, ?_⟩⟩
      · rw [ek]
        have : m * ((1 + k) * (1 + k)) ≤ -1 * ((1 + k) * (1 + k)) := Int.mul_le_mul_of_nonneg_right (by omega) (by omega)
        omega
      · rw [ek]
        have : -23 * ((1 + k) * (1 + k)) ≤ m * ((1 + k) * (1 + k)) := Int.mul_le_mul_of_nonneg_right m3 (by omega)
        omega
    rintro σ H3 ⟨d', x3, y3, rfl, h3, d0', d1'⟩
    refine seq_cut (fun σ H => ∃ d x y : Int, σ = [some (.ref a), some (.ref st), some (.int d), none, none, none, none, none] ∧ H st = some (.lst [.int x, .int y]) ∧ discB d = true ∧ Sm (-d)) (fun R hR => ?_) ?_
    · walk_at "rs"
      have big : discB (-1000000) = true := by rw [discB_neg (by decide)]; decide
      have hbig := hR _ _ ⟨-1000000, x3, y3, rfl, h3, big, ⟨by decide, by decide⟩⟩
      refine ite2 (fun _ => hbig) (fun c => ⟨d', rfl, by omega, ?_⟩)
      refine ⟨_, rfl, ite2 (fun _ => hbig) (fun c2 => hR _ _ ⟨d', x3, y3, rfl, h3, by simpa using c2, ⟨by omega, by omega⟩⟩)⟩
    clear d0 d1 d d0' d1' d' h2 h3 hst
    rintro σ H4 ⟨d, x4, y4, rfl, h4, hd, hSm⟩
    rw [CB.rd_seq]
    walk_at "rs"
    refine ⟨-d, rfl, hSm, fun ys us due H5 s5 ndue hdue ht hsrt hperm => ?_⟩
    have h5 := s5 _ _ h4
    have hcn := hSm.cnt
    have hlen : ys.length ≤ 1200 * cnt (-d) := by
      rw [← ht.len, hperm.length_eq]
      exact hSm.len _ (Nat.le_refl _)
    refine seq_cut (fun σ H => ∃ s4 s5 s6 s7, σ = [some (.ref a), some (.ref st), some (.int d), some (.ref due), s4, s5, s6, s7] ∧ Same H5 H) (fun R hR => ?_) ?_
    · walk_at "rs"
      refine ⟨0, .int d, rfl, .inl rfl, .inr (.inr ⟨d, rfl, hd, hSm, .inl ⟨rfl, fun ys' us' p H6 s6 np hp ht' hsrt' hperm' => ?_⟩⟩)⟩
      have eu : us' = us := srtT_uniq hsrt' hsrt (hperm'.trans hperm.symm)
      subst eu
      try walk_at "rs"
      refine ⟨_, .inl ⟨SqL.of (s6 _ _ hdue), fun l nl => ⟨.tuple (us'.map dT3), .tuple (us'.map dT3), .tup (SqT.of (by rw [upd_ne (ne_of_none hp nl)]; exact hp)) (dp_trs (ht'.updN nl)), .tup (SqT.of upd_same) (dp_trs ((ht.same s6).updN nl)), shaped_t3 _, shaped_t3 _, false, ?_, ?_⟩⟩⟩
      · rw [SeqAt.eqv_refl _ (SeqAt.canLay_of_shaped (shaped_t3 us'))]
        rfl
      rw [if_neg Bool.false_ne_true]
      exact hR _ _ ⟨_, _, _, _, rfl, s6.trans (same_upd nl)⟩
    rintro σ H7 ⟨t4, t5, t6, t7, rfl, s7⟩
    refine seq_cut (fun σ H => ∃ s4 s5 s6 s7, σ = [some (.ref a), some (.ref st), some (.int d), some (.ref due), s4, s5, s6, s7] ∧ Same H5 H) (fun R hR => ?_) ?_
    · walk_at "rs"
      refine ⟨1, .int d, rfl, .inr rfl, .inr (.inr ⟨d, rfl, hd, hSm, .inr ⟨rfl, fun H8 s8 => ?_⟩⟩)⟩
      have s78 := s7.trans s8
      have hl := s78 _ _ hdue
      have htt := ht.same s78
      try walk_at "rs"
      refine ⟨⟨_, SqL.of hl⟩, LcL.w (xs := ys) (fun i D zs H3 => zs.length = (prim (us.take i)).length ∧ H3 = upd H8 D (.lst zs) ∧ H8 D = none ∧ zs.length ≤ i) (fun D nD => ⟨rfl, rfl, nD, Nat.le_refl _⟩) ?_ ?_ ?_⟩
      · rintro D i zs H3 _ ⟨_, rfl, nD, _⟩
        exact SqL.of (by rw [upd_ne (ne_of_none hl nD)]; exact hl)
      · rintro D i v zs H3 hv ⟨ez, rfl, nD, hz⟩ N hN
        obtain ⟨r, x, y, z', rfl, hr3, hu⟩ := htt.get hv
        have hi : i < ys.length := (List.getElem?_eq_some_iff.mp hv).1
        walk_at "rs"
        refine ⟨r, x, y, z', rfl, by rw [upd_ne (ne_of_none hr3 nD)]; exact hr3, ?_⟩
        try walk_at "rs"
        refine ite2 (fun hg => ?_) (fun hg => ?_)
        · refine ⟨_, upd_same, small_size (by omega), hN _ _ ⟨?_, upd_upd, nD, ?_⟩⟩
          · rw [prim_yes hu hg, List.length_append, List.length_append, ez]
            rfl
          · rw [List.length_append, List.length_singleton]
            omega
        · exact hN _ _ ⟨by rw [prim_no hu hg]; exact ez, rfl, nD, by omega⟩
      · rintro D zs H3 nD ⟨ez, rfl, _, _⟩
        try walk_at "rs"
        refine ⟨zs.length, .inl ⟨_, SqL.of upd_same, rfl⟩, ?_⟩
        have e : zs.length = (prim (forms (-d))).length := by
          rw [ez, ← ht.len, List.take_length]
          exact (hperm.filter _).length_eq
        rw [e]
        try walk_at "rs"
        exact hR _ _ ⟨_, _, _, _, rfl, s78.trans (same_upd nD)⟩
    rintro σ H8 ⟨t4, t5, t6, t7, rfl, s8⟩
    -- the words of two calls
    refine seq_cut (fun σ H => ∃ s4 s5 s6 s7, σ = [some (.ref a), some (.ref st), some (.int d), some (.ref due), s4, s5, s6, s7] ∧ Same H5 H) (fun R hR => ?_) ?_
    · walk_at "rs"
      refine ⟨powI (n := 4) (by decide) (by decide) (by decide) (by decide), by decide, fun p np => ⟨⟨_, SqT.of upd_same⟩, ForT.w (xs := ([-1000003, -1000004, -10 ^ Int.toNat 30] : List Int).map V.int) (fun i σ H => ∃ s4 s5 s6 s7, σ = [some (.ref a), some (.ref st), some (.int d), some (.ref due), s4, s5, s6, s7] ∧ Same (upd H8 p (.tup (([-1000003, -1000004, -10 ^ Int.toNat 30] : List Int).map V.int))) H) ⟨_, _, _, _, rfl, Same.refl _⟩ ?_ ?_ ?_⟩⟩
      · rintro i σ H9 _ ⟨s4, s5', s6, s7', rfl, sm⟩
        exact SqT.of (sm _ _ upd_same)
      · rintro i v σ H9 hv ⟨s4, s5', s6, s7', rfl, sm⟩ N hN
        rw [List.getElem?_map] at hv
        obtain ⟨n, hn, rfl⟩ := Option.map_eq_some_iff.mp hv
        have hle : discB n = true ∧ n < -1000000 := by
          have hm := List.mem_of_getElem? hn
          simp only [List.mem_cons, List.not_mem_nil, or_false] at hm
          rcases hm with rfl | rfl | rfl
          · exact ⟨by rw [discB_neg (by decide)]; decide, by decide⟩
          · exact ⟨by rw [discB_neg (by decide)]; decide, by decide⟩
          · exact ⟨by rw [discB_neg (by decide +kernel)]; decide +kernel, by decide +kernel⟩
        walk_at "rs"
        refine ⟨by decide, fun p2 n2 => ⟨⟨_, SqT.of upd_same⟩, LcT.w (xs := ([0, 1] : List Int).map V.int) (fun j D zs H10 => zs = (List.replicate j ("large" : Str)).map V.str ∧ j ≤ 2 ∧ Same (upd H9 p2 (.tup (([0, 1] : List Int).map V.int))) H10 ∧ H10 D = some (.lst zs) ∧ (upd H9 p2 (.tup (([0, 1] : List Int).map V.int))) D = none)
          (fun D nD => ⟨rfl, by decide, same_upd nD, upd_same, nD⟩) ?_ ?_ ?_⟩⟩
        · rintro D j zs H10 _ ⟨rfl, _, sm10, hD, nD⟩
          exact SqT.of (sm10 _ _ upd_same)
        · rintro D j v zs H10 hv ⟨rfl, hj, sm10, hD, nD⟩ N2 hN2
          rw [List.getElem?_map] at hv
          obtain ⟨wh, hwh, rfl⟩ := Option.map_eq_some_iff.mp hv
          have hj2 : j < 2 := (List.getElem?_eq_some_iff.mp hwh).1
          have hw : wh = 0 ∨ wh = 1 := by
            have hm := List.mem_of_getElem? hwh
            simpa only [List.mem_cons, List.not_mem_nil, or_false] using hm
          walk_at "rs"
          refine ⟨wh, .int n, rfl, hw, .inr (.inl ⟨n, rfl, hle.1, hle.2, fun H11 sm11 => ?_⟩)⟩
          refine ⟨_, sm11 _ _ hD, ?_, hN2 _ _ ⟨?_, hj2, same_at (sm10.trans sm11) nD, upd_same, nD⟩⟩
          · rw [List.length_map, List.length_replicate]
            exact small_size (by omega)
          · rw [List.replicate_succ', List.map_append]
            rfl
        · rintro D zs H10 nD ⟨rfl, _, sm10, hD, _⟩
          try walk_at "rs"
          refine ⟨by decide, fun p5 n5 => ⟨_, upd_same, by decide, by decide, by decide, fun p6 n6 => ?_⟩⟩
          refine ⟨.list ((List.replicate 2 ("large" : Str)).map PyData.str), .list ((List.replicate 2 ("large" : Str)).map PyData.str), .lst (SqL.of (by rw [upd_ne (ne_of_none (same_upd n5 _ _ hD) n6)]; exact same_upd n5 _ _ hD)) (dp_strs (List.replicate 2 "large")), .lst (SqL.of upd_same) (dp_strs (List.replicate 2 "large")), by decide +kernel, by decide +kernel, false, ?_, ?_⟩
          · decide +kernel
          rw [if_neg Bool.false_ne_true]
          exact hN _ _ ⟨_, _, _, _, rfl, sm.trans ((same_upd n2).trans (sm10.trans ((same_upd n5).trans (same_upd n6))))⟩
      · rintro σ H9 ⟨s4, s5', s6, s7', rfl, sm⟩
        exact hR _ _ ⟨_, _, _, _, rfl, s8.trans ((same_upd np).trans sm)⟩
    rintro σ H9 ⟨t4, t5, t6, t7, rfl, s9⟩
    have h9 := s9 _ _ h5
    rw [CB.rd_seq]
    walk_at "rs"
    refine ⟨by decide, fun p np => ⟨mulL (by decide), powI (n := 4) (by decide) (by decide) (by decide) (by decide), by decide, fun p1 np1 => ?_⟩⟩
    have hbig : (10 : Int) ^ Int.toNat 20 + 1 < BIG ∧ 0 < (10 : Int) ^ Int.toNat 20 + 1 := by decide +kernel
    generalize (10 : Int) ^ Int.toNat 20 + 1 = big at *
    have sp : st ≠ p := ne_of_none h9 np
    have sp1 : st ≠ p1 := ne_of_none (by rw [upd_ne sp]; exact h9) np1
    have pp1 : p ≠ p1 := ne_of_none upd_same np1
    refine ⟨st, x4, y4, 13, rfl, by rw [upd_ne sp1, upd_ne sp]; exact h9, by decide, by decide +kernel, fun v x5 y5 v0 v1 => ?_⟩
    generalize e10 : upd (upd (upd H9 p (HO.tup [V.int 1, V.int 1, V.int 6])) p1 _) st _ = H10
    have hp : H10 p = some (.tup [V.int 1, V.int 1, V.int 6]) := by rw [← e10, upd_ne sp.symm, upd_ne pp1, upd_same]
    have hp1 : H10 p1 = some (.lst [V.non, V.bl true, V.str (Str.ofString "-23"), V.ref p, V.int 0, V.int (-1), V.int (-2), V.int (-23 * 2), V.int 1, V.int 5, V.int 12, V.int 40, V.int big]) := by rw [← e10, upd_ne sp1.symm, upd_same]
    clear e10
    have kd : ∀ {H' : Hp} {w : V} {T : String}, TyX K H' w (.type T) → T ∈ kinds → (T == "int") = false → Bad K H' w := fun a b c => .inl (.inl ⟨_, a, b, c⟩)
    have ng : ∀ {H' : Hp} {n : Int}, n ≤ 0 → discB n = false → Bad K H' (.int n) := fun {H' n} a b => .inl (.inr ⟨n, rfl, by omega, b⟩)
    have ps : ∀ {H' : Hp} {n : Int}, 0 < n → n < 1000 → Bad K H' (.int n) := fun {H' n} a b => .inr ⟨n, rfl, by omega, a⟩
    have pick : ∃ w, atI [V.non, V.bl true, V.str (Str.ofString "-23"), V.ref p, V.int 0, V.int (-1), V.int (-2), V.int (-23 * 2), V.int 1, V.int 5, V.int 12, V.int 40, V.int big] v = some w ∧ ∀ H', Same H10 H' → Bad K H' w := by
      have c : v = 0 ∨ v = 1 ∨ v = 2 ∨ v = 3 ∨ v = 4 ∨ v = 5 ∨ v = 6 ∨ v = 7 ∨ v = 8 ∨ v = 9 ∨ v = 10 ∨ v = 11 ∨ v = 12 := by omega
      rcases c with rfl | rfl | rfl | rfl | rfl | rfl | rfl | rfl | rfl | rfl | rfl | rfl | rfl
      · exact ⟨_, rfl, fun H' _ => kd (T := "NoneType") (.base .non) (by decide) (by decide)⟩
      · exact ⟨_, rfl, fun H' _ => kd (T := "bool") (.base (.bl true)) (by decide) (by decide)⟩
      · exact ⟨_, rfl, fun H' _ => kd (T := "str") (.base (.str _)) (by decide) (by decide)⟩
      · exact ⟨_, rfl, fun H' sm => kd (T := "tuple") (.base (.tup (sm _ _ hp))) (by decide) (by decide)⟩
      · exact ⟨_, rfl, fun H' _ => ng (by decide) (by decide +kernel)⟩
      · exact ⟨_, rfl, fun H' _ => ng (by decide) (by decide +kernel)⟩
      · exact ⟨_, rfl, fun H' _ => ng (by decide) (by decide +kernel)⟩
      · exact ⟨_, rfl, fun H' _ => ng (by decide) (by decide +kernel)⟩
      · exact ⟨_, rfl, fun H' _ => ps (by decide) (by decide)⟩
      · exact ⟨_, rfl, fun H' _ => ps (by decide) (by decide)⟩
      · exact ⟨_, rfl, fun H' _ => ps (by decide) (by decide)⟩
      · exact ⟨_, rfl, fun H' _ => ps (by decide) (by decide)⟩
      · exact ⟨_, rfl, fun H' _ => .inr ⟨big, rfl, hbig.1, hbig.2⟩⟩
    obtain ⟨bad, ebad, hbad⟩ := pick
    refine ⟨_, v, rfl, SqL.of hp1, bad, ebad, by decide, fun p2 n2 => ⟨⟨_, SqT.of upd_same⟩, LcT.w (xs := ([0, 1] : List Int).map V.int) (fun j D zs H11 => zs = (List.replicate j ("malformed" : Str)).map V.str ∧ j ≤ 2 ∧ Same (upd H10 p2 (.tup (([0, 1] : List Int).map V.int))) H11 ∧ H11 D = some (.lst zs) ∧ (upd H10 p2 (.tup (([0, 1] : List Int).map V.int))) D = none)
          (fun D nD => ⟨rfl, by decide, same_upd nD, upd_same, nD⟩) ?_ ?_ ?_⟩⟩
    · rintro D j zs H11 _ ⟨rfl, _, sm11, hD, nD⟩
      exact SqT.of (sm11 _ _ upd_same)
    · rintro D j v zs H11 hv ⟨rfl, hj, sm11, hD, nD⟩ N2 hN2
      rw [List.getElem?_map] at hv
      obtain ⟨wh, hwh, rfl⟩ := Option.map_eq_some_iff.mp hv
      have hj2 : j < 2 := (List.getElem?_eq_some_iff.mp hwh).1
      have hw : wh = 0 ∨ wh = 1 := by
        have hm := List.mem_of_getElem? hwh
        simpa only [List.mem_cons, List.not_mem_nil, or_false] using hm
      walk_at "rs"
      refine ⟨wh, bad, rfl, hw, .inl ⟨hbad _ ((same_upd n2).trans sm11), fun H12 sm12 => ?_⟩⟩
      refine ⟨_, sm12 _ _ hD, ?_, hN2 _ _ ⟨?_, hj2, same_at (sm11.trans sm12) nD, upd_same, nD⟩⟩
      · rw [List.length_map, List.length_replicate]
        exact small_size (by omega)
      · rw [List.replicate_succ', List.map_append]
        rfl
    · rintro D zs H11 nD ⟨rfl, _, sm11, hD, _⟩
      refine ⟨by decide, fun p5 n5 => ⟨_, upd_same, by decide, by decide, by decide, fun p6 n6 => ?_⟩⟩
      refine ⟨.list ((List.replicate 2 ("malformed" : Str)).map PyData.str), .list ((List.replicate 2 ("malformed" : Str)).map PyData.str), .lst (SqL.of (by rw [upd_ne (ne_of_none (same_upd n5 _ _ hD) n6)]; exact same_upd n5 _ _ hD)) (dp_strs (List.replicate 2 "malformed")), .lst (SqL.of upd_same) (dp_strs (List.replicate 2 "malformed")), by decide +kernel, by decide +kernel, ?_⟩
      rw [show ((PyData.list (List.map PyData.str (List.replicate 2 ("malformed" : Str)))).eqv (PyData.list (List.map PyData.str (List.replicate 2 ("malformed" : Str))))) = true from by decide +kernel]
      exact q _
end
abbrev s_RI : Stmt := inClass (top 4) 0
theorem sc_RI : FnScope ["self", "reason"] ["self", "reason"] (defScope s_RI) := ⟨rfl, rfl, rfl, by decide +kernel, rfl, by decide +kernel, by decide +kernel⟩
theorem ri_fn {P : Program} {w : World} {K : PySem.W.Frag} {mg : Str → Option Value} {base : Heap} {f : Addr} {fd : FuncData} (F : Fun K "__init__" "Refused.__init__" s_RI f fd) : FnOk P w K mg base CX0 1 f fd ["self", "reason"] (spRI K) := by
  refine F.ok sc_RI (fun vs H Q E h => by obtain ⟨a, C, v, rfl, _⟩ := h; rfl) (fun cdv A outer s H vs Q E hr h => ?_)
  obtain ⟨a, C, v, rfl, ox, n, ha, q⟩ := h
  refine ⟨_, pss_one (ps_ost (pv 0) (pv 1)), ?_⟩
  exact ⟨_, rfl, _, rfl, a, C, rfl, ox, n, .inl ⟨ha, fun dx hd ne => q dx hd ne⟩⟩
theorem all_mk {l : PySem.W.OpenLaw} {w : World} {K : PySem.W.Frag} {h : Heap} {mg : Str → Option Value} {fa f_is_integer f_root f_is_square f_is_discriminant f_check_discriminant f_told_content f__check_counted f__counted_forms f_reduced_forms f_class_number f__law_no_word f__law_state f__law_take f__law_whole f__law_plain f__law_common f__law_content f__law_root f__law_all_reduced f__law_is_told_disc f__law_drawn_disc f__law_told f_law CM CR fI NR : Addr} (X : K.In h) (G : h.Ns mainGlobals mg) (hfa : mg "law" = some (.ref fa))
    {od_is_integer an_is_integer od_root an_root od_is_square an_is_square od_is_discriminant an_is_discriminant od_check_discriminant an_check_discriminant od_told_content an_told_content od__check_counted an__check_counted od__counted_forms an__counted_forms od_reduced_forms an_reduced_forms od_class_number an_class_number od__law_no_word an__law_no_word od__law_state an__law_state od__law_take an__law_take od__law_whole an__law_whole od__law_plain an__law_plain od__law_common an__law_common od__law_content an__law_content od__law_root an__law_root od__law_all_reduced an__law_all_reduced od__law_is_told_disc an__law_is_told_disc od__law_drawn_disc an__law_drawn_disc od__law_told an__law_told od_law an_law od_I an_I dd_R : Option Addr} {sl_is_integer sl_root sl_is_square sl_is_discriminant sl_check_discriminant sl_told_content sl__check_counted sl__counted_forms sl_reduced_forms sl_class_number sl__law_no_word sl__law_state sl__law_take sl__law_whole sl__law_plain sl__law_common sl__law_content sl__law_root sl__law_all_reduced sl__law_is_told_disc sl__law_drawn_disc sl__law_told sl_law sl_I : Array (Option Value)} {oc_is_integer kV_is_integer dc_is_integer pm_is_integer cd_is_integer ct_is_integer oc_root kV_root dc_root pm_root cd_root ct_root oc_is_square kV_is_square dc_is_square pm_is_square cd_is_square ct_is_square oc_is_discriminant kV_is_discriminant dc_is_discriminant pm_is_discriminant cd_is_discriminant ct_is_discriminant oc_check_discriminant kV_check_discriminant dc_check_discriminant pm_check_discriminant cd_check_discriminant ct_check_discriminant oc_told_content kV_told_content dc_told_content pm_told_content cd_told_content ct_told_content oc__check_counted kV__check_counted dc__check_counted pm__check_counted cd__check_counted ct__check_counted oc__counted_forms kV__counted_forms dc__counted_forms pm__counted_forms cd__counted_forms ct__counted_forms oc_reduced_forms kV_reduced_forms dc_reduced_forms pm_reduced_forms cd_reduced_forms ct_reduced_forms oc_class_number kV_class_number dc_class_number pm_class_number cd_class_number ct_class_number oc__law_no_word kV__law_no_word dc__law_no_word pm__law_no_word cd__law_no_word ct__law_no_word oc__law_state kV__law_state dc__law_state pm__law_state cd__law_state ct__law_state oc__law_take kV__law_take dc__law_take pm__law_take cd__law_take ct__law_take oc__law_whole kV__law_whole dc__law_whole pm__law_whole cd__law_whole ct__law_whole oc__law_plain kV__law_plain dc__law_plain pm__law_plain cd__law_plain ct__law_plain oc__law_common kV__law_common dc__law_common pm__law_common cd__law_common ct__law_common oc__law_content kV__law_content dc__law_content pm__law_content cd__law_content ct__law_content oc__law_root kV__law_root dc__law_root pm__law_root cd__law_root ct__law_root oc__law_all_reduced kV__law_all_reduced dc__law_all_reduced pm__law_all_reduced cd__law_all_reduced ct__law_all_reduced oc__law_is_told_disc kV__law_is_told_disc dc__law_is_told_disc pm__law_is_told_disc cd__law_is_told_disc ct__law_is_told_disc oc__law_drawn_disc kV__law_drawn_disc dc__law_drawn_disc pm__law_drawn_disc cd__law_drawn_disc ct__law_drawn_disc oc__law_told kV__law_told dc__law_told pm__law_told cd__law_told ct__law_told oc_law kV_law dc_law pm_law cd_law ct_law oc_I kV_I dc_I pm_I cd_I ct_I : Value} {t_HALVED_BITS t_LARGEST : Tok} {nm_R q_R : Str} {bs_R bm_R sub_R : List Value} {sn_R : List Str} {ab_R : Bool} {col_R : Option Bool} {m0_R m1_R m2_R m3_R m5_R : Option Value}
    (a_is_integer : PySem.W.nsIn K mainGlobals "is_integer" = some (some (.ref f_is_integer)))
    (l_is_integer : K.lookup f_is_integer = some ⟨oc_is_integer, od_is_integer, .func (PySem.W.fnOf "is_integer" "is_integer" (defArgs s_is_integer) (defBody s_is_integer) (defScope s_is_integer) .none kV_is_integer dc_is_integer pm_is_integer an_is_integer cd_is_integer ct_is_integer), sl_is_integer⟩)
    (c_is_integer : PySem.W.codeIn K cd_is_integer "is_integer" = true)
    (k_is_integer : PySem.W.keepIn K (.ref f_is_integer) = true)
    (a_root : PySem.W.nsIn K mainGlobals "root" = some (some (.ref f_root)))
    (l_root : K.lookup f_root = some ⟨oc_root, od_root, .func (PySem.W.fnOf "root" "root" (defArgs s_root) (defBody s_root) (defScope s_root) .none kV_root dc_root pm_root an_root cd_root ct_root), sl_root⟩)
    (c_root : PySem.W.codeIn K cd_root "root" = true)
    (k_root : PySem.W.keepIn K (.ref f_root) = true)
    (a_is_square : PySem.W.nsIn K mainGlobals "is_square" = some (some (.ref f_is_square)))
    (l_is_square : K.lookup f_is_square = some ⟨oc_is_square, od_is_square, .func (PySem.W.fnOf "is_square" "is_square" (defArgs s_is_square) (defBody s_is_square) (defScope s_is_square) .none kV_is_square dc_is_square pm_is_square an_is_square cd_is_square ct_is_square), sl_is_square⟩)
    (c_is_square : PySem.W.codeIn K cd_is_square "is_square" = true)
    (k_is_square : PySem.W.keepIn K (.ref f_is_square) = true)
    (a_is_discriminant : PySem.W.nsIn K mainGlobals "is_discriminant" = some (some (.ref f_is_discriminant)))
    (l_is_discriminant : K.lookup f_is_discriminant = some ⟨oc_is_discriminant, od_is_discriminant, .func (PySem.W.fnOf "is_discriminant" "is_discriminant" (defArgs s_is_discriminant) (defBody s_is_discriminant) (defScope s_is_discriminant) .none kV_is_discriminant dc_is_discriminant pm_is_discriminant an_is_discriminant cd_is_discriminant ct_is_discriminant), sl_is_discriminant⟩)
    (c_is_discriminant : PySem.W.codeIn K cd_is_discriminant "is_discriminant" = true)
    (k_is_discriminant : PySem.W.keepIn K (.ref f_is_discriminant) = true)
    (a_check_discriminant : PySem.W.nsIn K mainGlobals "check_discriminant" = some (some (.ref f_check_discriminant)))
    (l_check_discriminant : K.lookup f_check_discriminant = some ⟨oc_check_discriminant, od_check_discriminant, .func (PySem.W.fnOf "check_discriminant" "check_discriminant" (defArgs s_check_discriminant) (defBody s_check_discriminant) (defScope s_check_discriminant) .none kV_check_discriminant dc_check_discriminant pm_check_discriminant an_check_discriminant cd_check_discriminant ct_check_discriminant), sl_check_discriminant⟩)
    (c_check_discriminant : PySem.W.codeIn K cd_check_discriminant "check_discriminant" = true)
    (k_check_discriminant : PySem.W.keepIn K (.ref f_check_discriminant) = true)
    (a_told_content : PySem.W.nsIn K mainGlobals "told_content" = some (some (.ref f_told_content)))
    (l_told_content : K.lookup f_told_content = some ⟨oc_told_content, od_told_content, .func (PySem.W.fnOf "told_content" "told_content" (defArgs s_told_content) (defBody s_told_content) (defScope s_told_content) .none kV_told_content dc_told_content pm_told_content an_told_content cd_told_content ct_told_content), sl_told_content⟩)
    (c_told_content : PySem.W.codeIn K cd_told_content "told_content" = true)
    (k_told_content : PySem.W.keepIn K (.ref f_told_content) = true)
    (a__check_counted : PySem.W.nsIn K mainGlobals "_check_counted" = some (some (.ref f__check_counted)))
    (l__check_counted : K.lookup f__check_counted = some ⟨oc__check_counted, od__check_counted, .func (PySem.W.fnOf "_check_counted" "_check_counted" (defArgs s__check_counted) (defBody s__check_counted) (defScope s__check_counted) .none kV__check_counted dc__check_counted pm__check_counted an__check_counted cd__check_counted ct__check_counted), sl__check_counted⟩)
    (c__check_counted : PySem.W.codeIn K cd__check_counted "_check_counted" = true)
    (k__check_counted : PySem.W.keepIn K (.ref f__check_counted) = true)
    (a__counted_forms : PySem.W.nsIn K mainGlobals "_counted_forms" = some (some (.ref f__counted_forms)))
    (l__counted_forms : K.lookup f__counted_forms = some ⟨oc__counted_forms, od__counted_forms, .func (PySem.W.fnOf "_counted_forms" "_counted_forms" (defArgs s__counted_forms) (defBody s__counted_forms) (defScope s__counted_forms) .none kV__counted_forms dc__counted_forms pm__counted_forms an__counted_forms cd__counted_forms ct__counted_forms), sl__counted_forms⟩)
    (c__counted_forms : PySem.W.codeIn K cd__counted_forms "_counted_forms" = true)
    (k__counted_forms : PySem.W.keepIn K (.ref f__counted_forms) = true)
    (a_reduced_forms : PySem.W.nsIn K mainGlobals "reduced_forms" = some (some (.ref f_reduced_forms)))
    (l_reduced_forms : K.lookup f_reduced_forms = some ⟨oc_reduced_forms, od_reduced_forms, .func (PySem.W.fnOf "reduced_forms" "reduced_forms" (defArgs s_reduced_forms) (defBody s_reduced_forms) (defScope s_reduced_forms) .none kV_reduced_forms dc_reduced_forms pm_reduced_forms an_reduced_forms cd_reduced_forms ct_reduced_forms), sl_reduced_forms⟩)
    (c_reduced_forms : PySem.W.codeIn K cd_reduced_forms "reduced_forms" = true)
    (k_reduced_forms : PySem.W.keepIn K (.ref f_reduced_forms) = true)
    (a_class_number : PySem.W.nsIn K mainGlobals "class_number" = some (some (.ref f_class_number)))
    (l_class_number : K.lookup f_class_number = some ⟨oc_class_number, od_class_number, .func (PySem.W.fnOf "class_number" "class_number" (defArgs s_class_number) (defBody s_class_number) (defScope s_class_number) .none kV_class_number dc_class_number pm_class_number an_class_number cd_class_number ct_class_number), sl_class_number⟩)
    (c_class_number : PySem.W.codeIn K cd_class_number "class_number" = true)
    (k_class_number : PySem.W.keepIn K (.ref f_class_number) = true)
    (a__law_no_word : PySem.W.nsIn K mainGlobals "_law_no_word" = some (some (.ref f__law_no_word)))
    (l__law_no_word : K.lookup f__law_no_word = some ⟨oc__law_no_word, od__law_no_word, .func (PySem.W.fnOf "_law_no_word" "_law_no_word" (defArgs s__law_no_word) (defBody s__law_no_word) (defScope s__law_no_word) .none kV__law_no_word dc__law_no_word pm__law_no_word an__law_no_word cd__law_no_word ct__law_no_word), sl__law_no_word⟩)
    (c__law_no_word : PySem.W.codeIn K cd__law_no_word "_law_no_word" = true)
    (k__law_no_word : PySem.W.keepIn K (.ref f__law_no_word) = true)
    (a__law_state : PySem.W.nsIn K mainGlobals "_law_state" = some (some (.ref f__law_state)))
    (l__law_state : K.lookup f__law_state = some ⟨oc__law_state, od__law_state, .func (PySem.W.fnOf "_law_state" "_law_state" (defArgs s__law_state) (defBody s__law_state) (defScope s__law_state) .none kV__law_state dc__law_state pm__law_state an__law_state cd__law_state ct__law_state), sl__law_state⟩)
    (c__law_state : PySem.W.codeIn K cd__law_state "_law_state" = true)
    (k__law_state : PySem.W.keepIn K (.ref f__law_state) = true)
    (a__law_take : PySem.W.nsIn K mainGlobals "_law_take" = some (some (.ref f__law_take)))
    (l__law_take : K.lookup f__law_take = some ⟨oc__law_take, od__law_take, .func (PySem.W.fnOf "_law_take" "_law_take" (defArgs s__law_take) (defBody s__law_take) (defScope s__law_take) .none kV__law_take dc__law_take pm__law_take an__law_take cd__law_take ct__law_take), sl__law_take⟩)
    (c__law_take : PySem.W.codeIn K cd__law_take "_law_take" = true)
    (k__law_take : PySem.W.keepIn K (.ref f__law_take) = true)
    (a__law_whole : PySem.W.nsIn K mainGlobals "_law_whole" = some (some (.ref f__law_whole)))
    (l__law_whole : K.lookup f__law_whole = some ⟨oc__law_whole, od__law_whole, .func (PySem.W.fnOf "_law_whole" "_law_whole" (defArgs s__law_whole) (defBody s__law_whole) (defScope s__law_whole) .none kV__law_whole dc__law_whole pm__law_whole an__law_whole cd__law_whole ct__law_whole), sl__law_whole⟩)
    (c__law_whole : PySem.W.codeIn K cd__law_whole "_law_whole" = true)
    (k__law_whole : PySem.W.keepIn K (.ref f__law_whole) = true)
    (a__law_plain : PySem.W.nsIn K mainGlobals "_law_plain" = some (some (.ref f__law_plain)))
    (l__law_plain : K.lookup f__law_plain = some ⟨oc__law_plain, od__law_plain, .func (PySem.W.fnOf "_law_plain" "_law_plain" (defArgs s__law_plain) (defBody s__law_plain) (defScope s__law_plain) .none kV__law_plain dc__law_plain pm__law_plain an__law_plain cd__law_plain ct__law_plain), sl__law_plain⟩)
    (c__law_plain : PySem.W.codeIn K cd__law_plain "_law_plain" = true)
    (k__law_plain : PySem.W.keepIn K (.ref f__law_plain) = true)
    (a__law_common : PySem.W.nsIn K mainGlobals "_law_common" = some (some (.ref f__law_common)))
    (l__law_common : K.lookup f__law_common = some ⟨oc__law_common, od__law_common, .func (PySem.W.fnOf "_law_common" "_law_common" (defArgs s__law_common) (defBody s__law_common) (defScope s__law_common) .none kV__law_common dc__law_common pm__law_common an__law_common cd__law_common ct__law_common), sl__law_common⟩)
    (c__law_common : PySem.W.codeIn K cd__law_common "_law_common" = true)
    (k__law_common : PySem.W.keepIn K (.ref f__law_common) = true)
    (a__law_content : PySem.W.nsIn K mainGlobals "_law_content" = some (some (.ref f__law_content)))
    (l__law_content : K.lookup f__law_content = some ⟨oc__law_content, od__law_content, .func (PySem.W.fnOf "_law_content" "_law_content" (defArgs s__law_content) (defBody s__law_content) (defScope s__law_content) .none kV__law_content dc__law_content pm__law_content an__law_content cd__law_content ct__law_content), sl__law_content⟩)
    (c__law_content : PySem.W.codeIn K cd__law_content "_law_content" = true)
    (k__law_content : PySem.W.keepIn K (.ref f__law_content) = true)
    (a__law_root : PySem.W.nsIn K mainGlobals "_law_root" = some (some (.ref f__law_root)))
    (l__law_root : K.lookup f__law_root = some ⟨oc__law_root, od__law_root, .func (PySem.W.fnOf "_law_root" "_law_root" (defArgs s__law_root) (defBody s__law_root) (defScope s__law_root) .none kV__law_root dc__law_root pm__law_root an__law_root cd__law_root ct__law_root), sl__law_root⟩)
    (c__law_root : PySem.W.codeIn K cd__law_root "_law_root" = true)
    (k__law_root : PySem.W.keepIn K (.ref f__law_root) = true)
    (a__law_all_reduced : PySem.W.nsIn K mainGlobals "_law_all_reduced" = some (some (.ref f__law_all_reduced)))
    (l__law_all_reduced : K.lookup f__law_all_reduced = some ⟨oc__law_all_reduced, od__law_all_reduced, .func (PySem.W.fnOf "_law_all_reduced" "_law_all_reduced" (defArgs s__law_all_reduced) (defBody s__law_all_reduced) (defScope s__law_all_reduced) .none kV__law_all_reduced dc__law_all_reduced pm__law_all_reduced an__law_all_reduced cd__law_all_reduced ct__law_all_reduced), sl__law_all_reduced⟩)
    (c__law_all_reduced : PySem.W.codeIn K cd__law_all_reduced "_law_all_reduced" = true)
    (k__law_all_reduced : PySem.W.keepIn K (.ref f__law_all_reduced) = true)
    (a__law_is_told_disc : PySem.W.nsIn K mainGlobals "_law_is_told_disc" = some (some (.ref f__law_is_told_disc)))
    (l__law_is_told_disc : K.lookup f__law_is_told_disc = some ⟨oc__law_is_told_disc, od__law_is_told_disc, .func (PySem.W.fnOf "_law_is_told_disc" "_law_is_told_disc" (defArgs s__law_is_told_disc) (defBody s__law_is_told_disc) (defScope s__law_is_told_disc) .none kV__law_is_told_disc dc__law_is_told_disc pm__law_is_told_disc an__law_is_told_disc cd__law_is_told_disc ct__law_is_told_disc), sl__law_is_told_disc⟩)
    (c__law_is_told_disc : PySem.W.codeIn K cd__law_is_told_disc "_law_is_told_disc" = true)
    (k__law_is_told_disc : PySem.W.keepIn K (.ref f__law_is_told_disc) = true)
    (a__law_drawn_disc : PySem.W.nsIn K mainGlobals "_law_drawn_disc" = some (some (.ref f__law_drawn_disc)))
    (l__law_drawn_disc : K.lookup f__law_drawn_disc = some ⟨oc__law_drawn_disc, od__law_drawn_disc, .func (PySem.W.fnOf "_law_drawn_disc" "_law_drawn_disc" (defArgs s__law_drawn_disc) (defBody s__law_drawn_disc) (defScope s__law_drawn_disc) .none kV__law_drawn_disc dc__law_drawn_disc pm__law_drawn_disc an__law_drawn_disc cd__law_drawn_disc ct__law_drawn_disc), sl__law_drawn_disc⟩)
    (c__law_drawn_disc : PySem.W.codeIn K cd__law_drawn_disc "_law_drawn_disc" = true)
    (k__law_drawn_disc : PySem.W.keepIn K (.ref f__law_drawn_disc) = true)
    (a__law_told : PySem.W.nsIn K mainGlobals "_law_told" = some (some (.ref f__law_told)))
    (l__law_told : K.lookup f__law_told = some ⟨oc__law_told, od__law_told, .func (PySem.W.fnOf "_law_told" "_law_told" (defArgs s__law_told) (defBody s__law_told) (defScope s__law_told) .none kV__law_told dc__law_told pm__law_told an__law_told cd__law_told ct__law_told), sl__law_told⟩)
    (c__law_told : PySem.W.codeIn K cd__law_told "_law_told" = true)
    (k__law_told : PySem.W.keepIn K (.ref f__law_told) = true)
    (a_law : PySem.W.nsIn K mainGlobals "law" = some (some (.ref f_law)))
    (l_law : K.lookup f_law = some ⟨oc_law, od_law, .func (PySem.W.fnOf "law" "law" (defArgs s_law) (defBody s_law) (defScope s_law) .none kV_law dc_law pm_law an_law cd_law ct_law), sl_law⟩)
    (c_law : PySem.W.codeIn K cd_law "law" = true)
    (k_law : PySem.W.keepIn K (.ref f_law) = true)
    (z_abs : PySem.W.nsIn K mainGlobals "abs" = some none)
    (z_int : PySem.W.nsIn K mainGlobals "int" = some none)
    (z_bool : PySem.W.nsIn K mainGlobals "bool" = some none)
    (z_str : PySem.W.nsIn K mainGlobals "str" = some none)
    (z_tuple : PySem.W.nsIn K mainGlobals "tuple" = some none)
    (z_max : PySem.W.nsIn K mainGlobals "max" = some none)
    (z_range : PySem.W.nsIn K mainGlobals "range" = some none)
    (z_sorted : PySem.W.nsIn K mainGlobals "sorted" = some none)
    (z_isinstance : PySem.W.nsIn K mainGlobals "isinstance" = some none)
    (z_len : PySem.W.nsIn K mainGlobals "len" = some none)
    (z_gcd : PySem.W.nsIn K mainGlobals "gcd" = some (some (.builtin "math.gcd")))
    (z_isqrt : PySem.W.nsIn K mainGlobals "isqrt" = some (some (.builtin "math.isqrt")))
    (v_HALVED_BITS : PySem.W.nsIn K mainGlobals "HALVED_BITS" = some (some (.int 32 t_HALVED_BITS)))
    (v_LARGEST : PySem.W.nsIn K mainGlobals "LARGEST" = some (some (.int 1000000 t_LARGEST)))
    (aM : PySem.W.nsIn K mainGlobals "Malformed" = some (some (.ref CM)))
    (xM : PySem.W.excIn K CM veB "ValueError.__new__" = true)
    (kM : PySem.W.keepIn K (.ref CM) = true)
    (bM : PySem.W.subIn K (.ref CM) (.type "BaseException") = some true)
    (tM : PySem.W.typeIn K (.ref CM) = some (.type "type"))
    (iM : PySem.W.isClsIn K CM = true)
    (mM : PySem.W.subIn K (.ref CM) (.ref CM) = some true)
    (aR : PySem.W.nsIn K mainGlobals "Refused" = some (some (.ref CR)))
    (xR : K.lookup CR = some (excClassObj nm_R q_R CR NR bs_R bm_R true sn_R sub_R ab_R col_R dd_R m0_R m1_R m2_R m3_R m5_R "ValueError.__new__"))
    (vR : PySem.HandSPX.refsVE bm_R = true)
    (sR : PySem.W.findIn K (.ref CR) "__setattr__" = some (some (.builtin "object.__setattr__")))
    (gR : PySem.W.findIn K (.ref CR) "__getattribute__" = some (some (.builtin "BaseException.__getattribute__")))
    (hR : PySem.W.findIn K (.ref CR) "__getattr__" = some none)
    (nR : PySem.W.findIn K (.ref CR) "reason" = some none)
    (iR : PySem.W.findIn K (.ref CR) "__init__" = some (some (.ref fI)))
    (tI : PySem.W.typeIn K (.ref fI) = some (.type "function"))
    (lI : K.lookup fI = some ⟨oc_I, od_I, .func (PySem.W.fnOf "__init__" "Refused.__init__" (defArgs s_RI) (defBody s_RI) (defScope s_RI) .none kV_I dc_I pm_I an_I cd_I ct_I), sl_I⟩)
    (cI : PySem.W.codeIn K cd_I "Refused.__init__" = true)
    (kI : PySem.W.keepIn K (.ref fI) = true)
    (kR : PySem.W.keepIn K (.ref CR) = true)
    (bR : PySem.W.subIn K (.ref CR) (.type "BaseException") = some true)
    (tR : PySem.W.typeIn K (.ref CR) = some (.type "type"))
    (dR : PySem.W.hasDictIn K CR = true)
    (cR : PySem.W.isClsIn K CR = true)
    (rm : PySem.W.subIn K (.ref CR) (.ref CM) = some false)
    (rr : PySem.W.subIn K (.ref CR) (.ref CR) = some true) :
    ∃ fd : FuncData, (∀ (s : Shared) (v : Value), BindsTo s fd ⟨[v], []⟩ [("script", v)]) ∧ ∀ base : Heap, K.In base → base.Ns mainGlobals mg → FnOk l.prog w K mg base CX0 7 fa fd ["script"] (spLaw K) := by
  have e := hfa.symm.trans (PySem.W.mg_of X G a_law)
  cases e
  have B : Bl mg := { abs := PySem.W.mg_none_of X G z_abs, int := PySem.W.mg_none_of X G z_int, bool := PySem.W.mg_none_of X G z_bool, str := PySem.W.mg_none_of X G z_str, tuple := PySem.W.mg_none_of X G z_tuple, max := PySem.W.mg_none_of X G z_max, range := PySem.W.mg_none_of X G z_range, sorted := PySem.W.mg_none_of X G z_sorted, isinstance := PySem.W.mg_none_of X G z_isinstance, len := PySem.W.mg_none_of X G z_len, gcd := PySem.W.mg_of X G z_gcd, isqrt := PySem.W.mg_of X G z_isqrt, c_HALVED_BITS := ⟨_, PySem.W.mg_of X G v_HALVED_BITS⟩, c_LARGEST := ⟨_, PySem.W.mg_of X G v_LARGEST⟩ }
  have d_is_integer : Dn K mg "is_integer" s_is_integer ["value"] := dn_mk X G a_is_integer l_is_integer c_is_integer k_is_integer fun _ _ _ _ _ _ us hl => match us, hl with | [_], _ => rfl
  have d_root : Dn K mg "root" s_root ["n", "k"] := dn_mk X G a_root l_root c_root k_root fun _ _ _ _ _ _ us hl => match us, hl with | [_, _], _ => rfl
  have d_is_square : Dn K mg "is_square" s_is_square ["n"] := dn_mk X G a_is_square l_is_square c_is_square k_is_square fun _ _ _ _ _ _ us hl => match us, hl with | [_], _ => rfl
  have d_is_discriminant : Dn K mg "is_discriminant" s_is_discriminant ["value"] := dn_mk X G a_is_discriminant l_is_discriminant c_is_discriminant k_is_discriminant fun _ _ _ _ _ _ us hl => match us, hl with | [_], _ => rfl
  have d_check_discriminant : Dn K mg "check_discriminant" s_check_discriminant ["D"] := dn_mk X G a_check_discriminant l_check_discriminant c_check_discriminant k_check_discriminant fun _ _ _ _ _ _ us hl => match us, hl with | [_], _ => rfl
  have d_told_content : Dn K mg "told_content" s_told_content ["f"] := dn_mk X G a_told_content l_told_content c_told_content k_told_content fun _ _ _ _ _ _ us hl => match us, hl with | [_], _ => rfl
  have d__check_counted : Dn K mg "_check_counted" s__check_counted ["D"] := dn_mk X G a__check_counted l__check_counted c__check_counted k__check_counted fun _ _ _ _ _ _ us hl => match us, hl with | [_], _ => rfl
  have d__counted_forms : Dn K mg "_counted_forms" s__counted_forms ["D"] := dn_mk X G a__counted_forms l__counted_forms c__counted_forms k__counted_forms fun _ _ _ _ _ _ us hl => match us, hl with | [_], _ => rfl
  have d_reduced_forms : Dn K mg "reduced_forms" s_reduced_forms ["D"] := dn_mk X G a_reduced_forms l_reduced_forms c_reduced_forms k_reduced_forms fun _ _ _ _ _ _ us hl => match us, hl with | [_], _ => rfl
  have d_class_number : Dn K mg "class_number" s_class_number ["D"] := dn_mk X G a_class_number l_class_number c_class_number k_class_number fun _ _ _ _ _ _ us hl => match us, hl with | [_], _ => rfl
  have d__law_no_word : Dn K mg "_law_no_word" s__law_no_word ["value"] := dn_mk X G a__law_no_word l__law_no_word c__law_no_word k__law_no_word fun _ _ _ _ _ _ us hl => match us, hl with | [_], _ => rfl
  have d__law_state : Dn K mg "_law_state" s__law_state ["script"] := dn_mk X G a__law_state l__law_state c__law_state k__law_state fun _ _ _ _ _ _ us hl => match us, hl with | [_], _ => rfl
  have d__law_take : Dn K mg "_law_take" s__law_take ["state", "m"] := dn_mk X G a__law_take l__law_take c__law_take k__law_take fun _ _ _ _ _ _ us hl => match us, hl with | [_, _], _ => rfl
  have d__law_whole : Dn K mg "_law_whole" s__law_whole ["value"] := dn_mk X G a__law_whole l__law_whole c__law_whole k__law_whole fun _ _ _ _ _ _ us hl => match us, hl with | [_], _ => rfl
  have d__law_plain : Dn K mg "_law_plain" s__law_plain ["value"] := dn_mk X G a__law_plain l__law_plain c__law_plain k__law_plain fun _ _ _ _ _ _ us hl => match us, hl with | [_], _ => rfl
  have d__law_common : Dn K mg "_law_common" s__law_common ["a", "b"] := dn_mk X G a__law_common l__law_common c__law_common k__law_common fun _ _ _ _ _ _ us hl => match us, hl with | [_, _], _ => rfl
  have d__law_content : Dn K mg "_law_content" s__law_content ["f"] := dn_mk X G a__law_content l__law_content c__law_content k__law_content fun _ _ _ _ _ _ us hl => match us, hl with | [_], _ => rfl
  have d__law_root : Dn K mg "_law_root" s__law_root ["n"] := dn_mk X G a__law_root l__law_root c__law_root k__law_root fun _ _ _ _ _ _ us hl => match us, hl with | [_], _ => rfl
  have d__law_all_reduced : Dn K mg "_law_all_reduced" s__law_all_reduced ["n"] := dn_mk X G a__law_all_reduced l__law_all_reduced c__law_all_reduced k__law_all_reduced fun _ _ _ _ _ _ us hl => match us, hl with | [_], _ => rfl
  have d__law_is_told_disc : Dn K mg "_law_is_told_disc" s__law_is_told_disc ["d"] := dn_mk X G a__law_is_told_disc l__law_is_told_disc c__law_is_told_disc k__law_is_told_disc fun _ _ _ _ _ _ us hl => match us, hl with | [_], _ => rfl
  have d__law_drawn_disc : Dn K mg "_law_drawn_disc" s__law_drawn_disc ["state", "most", "sign"] := dn_mk X G a__law_drawn_disc l__law_drawn_disc c__law_drawn_disc k__law_drawn_disc fun _ _ _ _ _ _ us hl => match us, hl with | [_, _, _], _ => rfl
  have d__law_told : Dn K mg "_law_told" s__law_told ["which", "d"] := dn_mk X G a__law_told l__law_told c__law_told k__law_told fun _ _ _ _ _ _ us hl => match us, hl with | [_, _], _ => rfl
  have d_law : Dn K mg "law" s_law ["script"] := dn_mk X G a_law l_law c_law k_law fun _ _ _ _ _ _ us hl => match us, hl with | [_], _ => rfl
  have hM : PySem.W.exmOne K (.ref CM) (.ref CM) = some true := exm_b bM iM tM mM
  have mr : PySem.W.exmOne K (.ref CR) (.ref CM) = some false := exm_b bM iM tM rm
  have hR2 : PySem.W.exmOne K (.ref CR) (.ref CR) = some true := exm_b bR cR tR rr
  refine ⟨PySem.W.fnOf "law" "law" (defArgs s_law) (defBody s_law) (defScope s_law) .none kV_law dc_law pm_law an_law cd_law ct_law, fun s v => .of_eq rfl, fun base _ _ => ?_⟩
  have FI := fun_mk (st := s_RI) lI cI kI
  have bI := FI.binds (ps := ["self", "reason"]) fun _ _ _ _ _ _ us hl => match us, hl with | [_, _], _ => rfl
  have e_E : ErrI l.prog w K mg base CM CR := ⟨⟨PySem.W.mg_of X G aM, xM, kM, bM, tM, hM⟩, fI, _, ⟨PySem.W.mg_of X G aR, ⟨⟨nm_R, q_R, NR, bs_R, bm_R, sn_R, sub_R, ab_R, col_R, dd_R, m0_R, m1_R, m2_R, m3_R, m5_R, xR, vR⟩, sR, bR, tR, kR⟩, iR, tI, nR, ⟨gR, hR, bR, dR⟩, mr, hR2⟩,
    ri_fn FI, bI⟩
  have r_take := cal_take (P := l.prog) (w := w) (base := base) d__law_take B
  have r_state := cal_state (P := l.prog) (w := w) (base := base) d__law_state B
  have r_int := cal_is_integer (P := l.prog) (w := w) (base := base) d_is_integer B
  have r_whole := cal_whole (P := l.prog) (w := w) (base := base) d__law_whole B
  have r_root := cal_root (P := l.prog) (w := w) (base := base) d_root B
  have r_lroot := cal_law_root (P := l.prog) (w := w) (base := base) d__law_root B
  have r_sq := cal_is_square (P := l.prog) (w := w) (base := base) d_is_square B
  have r_disc := cal_is_disc (P := l.prog) (w := w) (base := base) d_is_discriminant B r_int r_sq
  have r_chk := cal_check (P := l.prog) (w := w) (base := base) d_check_discriminant B r_disc e_E
  have r_cont := cal_content (P := l.prog) (w := w) (base := base) d_told_content B
  have r_cnt := cal_counted (P := l.prog) (w := w) (base := base) d__counted_forms B r_root
  have r_red := cal_reduced (P := l.prog) (w := w) (base := base) d__law_all_reduced B r_lroot
  have r_cc := cal_cc (P := l.prog) (w := w) (base := base) d__check_counted B r_chk e_E
  have r_rf := cal_rf (P := l.prog) (w := w) (base := base) d_reduced_forms B r_cc r_cnt
  have r_cn := cal_cn (P := l.prog) (w := w) (base := base) d_class_number B r_cc r_cnt r_cont
  have r_p0 := cal_plain (P := l.prog) (w := w) (base := base) d__law_plain B r_whole
  have r_p1 := cal_plain1 (P := l.prog) (w := w) (base := base) d__law_plain B r_p0 r_whole
  have r_p2 := cal_plain2 (P := l.prog) (w := w) (base := base) d__law_plain B r_p1 r_whole
  have r_nw := cal_no_word (P := l.prog) (w := w) (base := base) d__law_no_word B
  have r_comm := cal_common (P := l.prog) (w := w) (base := base) d__law_common B
  have r_lcontent := cal_lcontent (P := l.prog) (w := w) (base := base) d__law_content B r_comm
  have r_td := cal_td (P := l.prog) (w := w) (base := base) d__law_is_told_disc B r_whole r_lroot
  have r_dd := cal_dd (P := l.prog) (w := w) (base := base) d__law_drawn_disc B r_take r_td
  have r_told := cal_told (P := l.prog) (w := w) (base := base) d__law_told B r_rf r_cn r_p2 r_nw e_E
  exact ok_law (P := l.prog) (w := w) (base := base) (fun_mk (st := s_law) l_law c_law k_law) B r_state r_take r_told r_dd r_td r_red r_lcontent
theorem walk {l : PySem.W.OpenLaw} {q : Program} {loose : List Str} {XP : (Str → Option Value) → Heap → Prop} {YP : World → Heap → Prop} {d : DefRec} {K : Params → PySem.W.Frag} (hn : l.most = some 63) (hdf : d.params.defaults = []) (hY : ∀ (w : World) (h : Heap), YP w h → (K w.params).In h)
    (F : ∀ (w : World) (mg : Str → Option Value) (fa : Addr) (h : Heap), (K w.params).In h → h.Ns mainGlobals mg → mg d.name = some (.ref fa) → ∃ fd : FuncData, (∀ (s : Shared) (u : Value), BindsTo s fd ⟨[u], []⟩ [("script", u)]) ∧ ∀ base : Heap, (K w.params).In base → base.Ns mainGlobals mg → FnOk l.prog w (K w.params) mg base CX0 7 fa fd ["script"] (spLaw (K w.params))) :
    PySem.W.WalkO q loose XP YP l.row.toRowW d [] (fun f vs => PySem.call f vs) :=
  L2.walk_of (n := 63) (k := 7) (x := "script") (CX := fun _ => CX0) (sp := fun w => spLaw (K w.params)) hn (by decide) hdf ⟨rfl, by decide, by decide⟩ hY F (fun _ _ a ns hl _ hS => ⟨a, ns, rfl, hS, hl, fun _ => rfl⟩) fun _ _ _ _ _ z => z

end L17
open PySem PySem.W PyProof.Rows
set_option maxRecDepth 100000 in
set_option maxHeartbeats 0 in
theorem PySem.Challenge.cw_classledger_k17_whole_reduced_forms_list_holds : PySem.Challenge.rw_classledger_k17_whole_reduced_forms_list.Holds := by
  w_on; o_law; k_head; (case hw => w_witness2)
  k_fill
  refine L17.walk (l := PySem.Challenge.rw_classledger_k17_whole_reduced_forms_list) rfl rfl (fun w h Y => PySem.W.kIn_of Y) ?F
  case F =>
    intro w mg fa h KX G hmg
    refine' L17.all_mk KX G hmg ?a_is_integer ?l_is_integer ?c_is_integer ?k_is_integer ?a_root ?l_root ?c_root ?k_root ?a_is_square ?l_is_square ?c_is_square ?k_is_square ?a_is_discriminant ?l_is_discriminant ?c_is_discriminant ?k_is_discriminant ?a_check_discriminant ?l_check_discriminant ?c_check_discriminant ?k_check_discriminant ?a_told_content ?l_told_content ?c_told_content ?k_told_content ?a__check_counted ?l__check_counted ?c__check_counted ?k__check_counted ?a__counted_forms ?l__counted_forms ?c__counted_forms ?k__counted_forms ?a_reduced_forms ?l_reduced_forms ?c_reduced_forms ?k_reduced_forms ?a_class_number ?l_class_number ?c_class_number ?k_class_number ?a__law_no_word ?l__law_no_word ?c__law_no_word ?k__law_no_word ?a__law_state ?l__law_state ?c__law_state ?k__law_state ?a__law_take ?l__law_take ?c__law_take ?k__law_take ?a__law_whole ?l__law_whole ?c__law_whole ?k__law_whole ?a__law_plain ?l__law_plain ?c__law_plain ?k__law_plain ?a__law_common ?l__law_common ?c__law_common ?k__law_common ?a__law_content ?l__law_content ?c__law_content ?k__law_content ?a__law_root ?l__law_root ?c__law_root ?k__law_root ?a__law_all_reduced ?l__law_all_reduced ?c__law_all_reduced ?k__law_all_reduced ?a__law_is_told_disc ?l__law_is_told_disc ?c__law_is_told_disc ?k__law_is_told_disc ?a__law_drawn_disc ?l__law_drawn_disc ?c__law_drawn_disc ?k__law_drawn_disc ?a__law_told ?l__law_told ?c__law_told ?k__law_told ?a_law ?l_law ?c_law ?k_law ?z_abs ?z_int ?z_bool ?z_str ?z_tuple ?z_max ?z_range ?z_sorted ?z_isinstance ?z_len ?z_gcd ?z_isqrt ?v_HALVED_BITS ?v_LARGEST ?aM ?xM ?kM ?bM ?tM ?iM ?mM ?aR ?xR ?vR ?sR ?gR ?hR ?nR ?iR ?tI ?lI ?cI ?kI ?kR ?bR ?tR ?dR ?cR ?rm ?rr
    (case a_is_integer => k_is); (case l_is_integer => k_is); (case c_is_integer => k_is); (case k_is_integer => k_is)
    (case a_root => k_is); (case l_root => k_is); (case c_root => k_is); (case k_root => k_is)
    (case a_is_square => k_is); (case l_is_square => k_is); (case c_is_square => k_is); (case k_is_square => k_is)
    (case a_is_discriminant => k_is); (case l_is_discriminant => k_is); (case c_is_discriminant => k_is); (case k_is_discriminant => k_is)
    (case a_check_discriminant => k_is); (case l_check_discriminant => k_is); (case c_check_discriminant => k_is); (case k_check_discriminant => k_is)
    (case a_told_content => k_is); (case l_told_content => k_is); (case c_told_content => k_is); (case k_told_content => k_is)
    (case a__check_counted => k_is); (case l__check_counted => k_is); (case c__check_counted => k_is); (case k__check_counted => k_is)
    (case a__counted_forms => k_is); (case l__counted_forms => k_is); (case c__counted_forms => k_is); (case k__counted_forms => k_is)
    (case a_reduced_forms => k_is); (case l_reduced_forms => k_is); (case c_reduced_forms => k_is); (case k_reduced_forms => k_is)
    (case a_class_number => k_is); (case l_class_number => k_is); (case c_class_number => k_is); (case k_class_number => k_is)
    (case a__law_no_word => k_is); (case l__law_no_word => k_is); (case c__law_no_word => k_is); (case k__law_no_word => k_is)
    (case a__law_state => k_is); (case l__law_state => k_is); (case c__law_state => k_is); (case k__law_state => k_is)
    (case a__law_take => k_is); (case l__law_take => k_is); (case c__law_take => k_is); (case k__law_take => k_is)
    (case a__law_whole => k_is); (case l__law_whole => k_is); (case c__law_whole => k_is); (case k__law_whole => k_is)
    (case a__law_plain => k_is); (case l__law_plain => k_is); (case c__law_plain => k_is); (case k__law_plain => k_is)
    (case a__law_common => k_is); (case l__law_common => k_is); (case c__law_common => k_is); (case k__law_common => k_is)
    (case a__law_content => k_is); (case l__law_content => k_is); (case c__law_content => k_is); (case k__law_content => k_is)
    (case a__law_root => k_is); (case l__law_root => k_is); (case c__law_root => k_is); (case k__law_root => k_is)
    (case a__law_all_reduced => k_is); (case l__law_all_reduced => k_is); (case c__law_all_reduced => k_is); (case k__law_all_reduced => k_is)
    (case a__law_is_told_disc => k_is); (case l__law_is_told_disc => k_is); (case c__law_is_told_disc => k_is); (case k__law_is_told_disc => k_is)
    (case a__law_drawn_disc => k_is); (case l__law_drawn_disc => k_is); (case c__law_drawn_disc => k_is); (case k__law_drawn_disc => k_is)
    (case a__law_told => k_is); (case l__law_told => k_is); (case c__law_told => k_is); (case k__law_told => k_is)
    (case a_law => k_is); (case l_law => k_is); (case c_law => k_is); (case k_law => k_is)
    (case z_abs => k_is); (case z_int => k_is); (case z_bool => k_is); (case z_str => k_is)
    (case z_tuple => k_is); (case z_max => k_is); (case z_range => k_is); (case z_sorted => k_is)
    (case z_isinstance => k_is); (case z_len => k_is); (case z_gcd => k_is); (case z_isqrt => k_is)
    (case v_HALVED_BITS => k_is); (case v_LARGEST => k_is); (case aM => k_is); (case xM => k_exc)
    (case kM => k_is); (case bM => k_is); (case tM => k_is); (case iM => k_is)
    (case mM => k_is); (case aR => k_is); (case xR => k_is); (case vR => first | rfl | decide +kernel)
    (case sR => k_is); (case gR => k_is); (case hR => k_is); (case nR => k_is)
    (case iR => k_is); (case tI => k_is); (case lI => k_is); (case cI => k_is)
    (case kI => k_is); (case kR => k_is); (case bR => k_is); (case tR => k_is)
    (case dR => k_is); (case cR => k_is); (case rm => k_is); (case rr => k_is)
