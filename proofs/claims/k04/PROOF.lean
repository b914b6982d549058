import PyProof.Rows.All
import Wide.All
import OpenK.AllK
import Wide.FinOn
import HandS.Base
import HandS.Call
import HandS.List
import HandS.Comp
import HandS.Ends
import HandS.Dict
import HandS.Iter
import HandS.Words
import HandS.WordsList
import HandS.Wide
import HandS.EndBits
import HandS.IsInst
import HandS.TupLen
import HandS.DictTup
import HandS.Sort
import HandS.Style
import HandS.Flow
import KE.KDictWalk
import HandS.DictComp
import KE.KDictCopyH
import KE.DataFind
import HandS.TupLe
import HandS.Walk
import HandS.DeepEq
import KE.RegKIsAll
import HandS.CallRecv
import PySem.Challenge.RW_everymeets_k04_answers_by_hand
set_option Elab.async false
set_option linter.all false
set_option maxRecDepth 100000
set_option maxHeartbeats 4000000
namespace EM
/-! the told plan as functions -/
def opp (t a r : Int) : Int := if a = t - 1 then r else if a = r then t - 1 else (2 * r - a) % (t - 1)
def home (t a r : Int) : Bool := if a = t - 1 then decide (r % 2 = 0) else if a = r then decide (r % 2 = 1) else decide ((a - r) % (t - 1) % 2 = 1)
def rnd (t a b : Int) : Int := if a = t - 1 then b else if b = t - 1 then a else ((a + b) * (t / 2)) % (t - 1)
structure TOk (t : Int) : Prop where
  two : 2 ≤ t
  even : t % 2 = 0
theorem emod_of {y m a k : Int} (h : y = a + m * k) (h0 : 0 ≤ a) (h1 : a < m) : y % m = a := by
  rw [h, Int.add_mul_emod_self_left]
  exact Int.emod_eq_of_lt h0 h1
theorem emod3 {y m : Int} (hm : 0 < m) (h0 : -m < y) (h1 : y < 2 * m) : (y % m = y ∧ 0 ≤ y ∧ y < m) ∨ (y % m = y - m ∧ m ≤ y) ∨ (y % m = y + m ∧ y < 0) := by
  by_cases a : y < 0
  · exact .inr (.inr ⟨emod_of (k := -1) (by omega) (by omega) (by omega), a⟩)
  · by_cases b : y < m
    · exact .inl ⟨emod_of (k := 0) (by omega) (by omega) b, by omega, b⟩
    · exact .inr (.inl ⟨emod_of (k := 1) (by omega) (by omega) (by omega), by omega⟩)
section
variable {t a b r : Int}
theorem opp_lt (T : TOk t) (a0 : 0 ≤ a) (a1 : a < t) (r0 : 0 ≤ r) (r1 : r < t - 1) : 0 ≤ opp t a r ∧ opp t a r < t := by
  have := T.two
  unfold opp
  split
  · omega
  · split
    · omega
    · have h1 := Int.emod_nonneg (2 * r - a) (show t - 1 ≠ 0 by omega)
      have h2 := Int.emod_lt_of_pos (2 * r - a) (show 0 < t - 1 by omega)
      omega
theorem opp_ne (T : TOk t) (a0 : 0 ≤ a) (a1 : a < t) (r0 : 0 ≤ r) (r1 : r < t - 1) : opp t a r ≠ a := by
  have := T.two
  have := T.even
  unfold opp
  split
  · omega
  · split
    · omega
    · have h := emod3 (y := 2 * r - a) (m := t - 1) (by omega) (by omega) (by omega)
      omega
theorem opp_opp (T : TOk t) (a0 : 0 ≤ a) (a1 : a < t) (r0 : 0 ≤ r) (r1 : r < t - 1) : opp t (opp t a r) r = a := by
  have := T.two
  have := T.even
  by_cases e1 : a = t - 1
  · have : opp t a r = r := by unfold opp; rw [if_pos e1]
    rw [this]
    unfold opp
    rw [if_neg (by omega), if_pos rfl, e1]
  · by_cases e2 : a = r
    · have : opp t a r = t - 1 := by unfold opp; rw [if_neg e1, if_pos e2]
      rw [this]
      unfold opp
      rw [if_pos rfl, e2]
    · have e : opp t a r = (2 * r - a) % (t - 1) := by unfold opp; rw [if_neg e1, if_neg e2]
      have h := emod3 (y := 2 * r - a) (m := t - 1) (by omega) (by omega) (by omega)
      rw [← e] at h
      generalize opp t a r = x at h
      unfold opp
      rw [if_neg (by omega), if_neg (by omega)]
      rcases h with h | h | h
      · exact emod_of (k := 0) (by omega) (by omega) (by omega)
      · exact emod_of (k := 1) (by omega) (by omega) (by omega)
      · exact emod_of (k := -1) (by omega) (by omega) (by omega)
/-- twice the half of the teams is one and a whole turn -/
theorem half_turn {h m s r q : Int} (e : 2 * h = m + 1) (hs : s = 2 * r + m * q) : s * h = r + m * (r + q * h) := by
  have h1 : 2 * r * h = r * (m + 1) := by rw [← e, ← Int.mul_assoc, Int.mul_comm 2 r]
  rw [hs, Int.add_mul, h1, Int.mul_add, Int.mul_add, Int.mul_one, Int.mul_assoc, Int.mul_comm m r]
  omega
theorem half_turn2 {h m s x : Int} (e : 2 * h = m + 1) (hx : x = s * h % m) : ∃ j, 2 * x = s + m * j := by
  have d : s * h % m + m * (s * h / m) = s * h := Int.emod_add_mul_ediv (s * h) m
  refine ⟨s - 2 * (s * h / m), ?_⟩
  have h1 : 2 * (s * h) = s * (m + 1) := by rw [← e, ← Int.mul_assoc, ← Int.mul_assoc, Int.mul_comm 2 s]
  rw [Int.mul_add, Int.mul_one] at h1
  rw [← hx] at d
  rw [Int.mul_sub, ← Int.mul_assoc, Int.mul_comm m 2, Int.mul_assoc, Int.mul_comm m s]
  generalize m * (s * h / m) = y at *
  generalize s * m = z at *
  omega
theorem rnd_opp (T : TOk t) (a0 : 0 ≤ a) (a1 : a < t) (r0 : 0 ≤ r) (r1 : r < t - 1) : rnd t a (opp t a r) = r ∧ rnd t (opp t a r) a = r := by
  have := T.two
  have := T.even
  by_cases e1 : a = t - 1
  · have e : opp t a r = r := by unfold opp; rw [if_pos e1]
    rw [e]
    unfold rnd
    rw [if_pos e1, if_neg (show ¬ r = t - 1 by omega), if_pos e1]
    exact ⟨rfl, rfl⟩
  · by_cases e2 : a = r
    · have e : opp t a r = t - 1 := by unfold opp; rw [if_neg e1, if_pos e2]
      rw [e]
      unfold rnd
      rw [if_neg e1, if_pos rfl, if_pos rfl]
      exact ⟨e2, e2⟩
    · have e : opp t a r = (2 * r - a) % (t - 1) := by unfold opp; rw [if_neg e1, if_neg e2]
      have h := emod3 (y := 2 * r - a) (m := t - 1) (by omega) (by omega) (by omega)
      rw [← e] at h
      have h2 : 2 * (t / 2) = (t - 1) + 1 := by omega
      generalize opp t a r = x at h
      unfold rnd
      rw [if_neg e1, if_neg (show ¬ x = t - 1 by omega), if_neg (show ¬ x = t - 1 by omega), if_neg e1, Int.add_comm x a]
      have k : ∃ q : Int, a + x = 2 * r + (t - 1) * q := by
        rcases h with h | h | h
        · exact ⟨0, by omega⟩
        · exact ⟨-1, by omega⟩
        · exact ⟨1, by omega⟩
      obtain ⟨q, hq⟩ := k
      have := emod_of (half_turn h2 hq) r0 r1
      exact ⟨this, this⟩
theorem home_opp (T : TOk t) (a0 : 0 ≤ a) (a1 : a < t) (r0 : 0 ≤ r) (r1 : r < t - 1) : home t (opp t a r) r = !home t a r := by
  have := T.two
  have := T.even
  have neg : ∀ {p q : Prop} [Decidable p] [Decidable q], (p ↔ ¬ q) → decide p = !decide q := fun {p q} _ _ h => by
    rw [decide_eq_decide.mpr h, decide_not]
  by_cases e1 : a = t - 1
  · have e : opp t a r = r := by unfold opp; rw [if_pos e1]
    rw [e]
    unfold home
    rw [if_neg (show ¬ r = t - 1 by omega), if_pos rfl, if_pos e1]
    exact neg (by omega)
  · by_cases e2 : a = r
    · have e : opp t a r = t - 1 := by unfold opp; rw [if_neg e1, if_pos e2]
      rw [e]
      unfold home
      rw [if_pos rfl, if_neg e1, if_pos e2]
      exact neg (by omega)
    · have e : opp t a r = (2 * r - a) % (t - 1) := by unfold opp; rw [if_neg e1, if_neg e2]
      have h := emod3 (y := 2 * r - a) (m := t - 1) (by omega) (by omega) (by omega)
      rw [← e] at h
      generalize opp t a r = x at h
      unfold home
      rw [if_neg (show ¬ x = t - 1 by omega), if_neg (show ¬ x = r by omega), if_neg e1, if_neg e2]
      have h3 := emod3 (y := a - r) (m := t - 1) (by omega) (by omega) (by omega)
      have h4 := emod3 (y := x - r) (m := t - 1) (by omega) (by omega) (by omega)
      refine neg ?_
      generalize (x - r) % (t - 1) = u at *
      generalize (a - r) % (t - 1) = v at *
      omega
theorem rnd_ok (T : TOk t) (a0 : 0 ≤ a) (a1 : a < t) (b0 : 0 ≤ b) (b1 : b < t) (n : a ≠ b) : 0 ≤ rnd t a b ∧ rnd t a b < t - 1 ∧ opp t a (rnd t a b) = b ∧ opp t b (rnd t a b) = a := by
  have := T.two
  have := T.even
  by_cases e1 : a = t - 1
  · have e : rnd t a b = b := by unfold rnd; rw [if_pos e1]
    rw [e]
    unfold opp
    rw [if_pos e1, if_neg (show ¬ b = t - 1 by omega), if_pos rfl]
    omega
  · by_cases e2 : b = t - 1
    · have e : rnd t a b = a := by unfold rnd; rw [if_neg e1, if_pos e2]
      rw [e]
      unfold opp
      rw [if_neg e1, if_pos rfl, if_pos e2]
      omega
    · have e : rnd t a b = (a + b) * (t / 2) % (t - 1) := by unfold rnd; rw [if_neg e1, if_neg e2]
      obtain ⟨j, hj⟩ := half_turn2 (h := t / 2) (m := t - 1) (s := a + b) (by omega) e
      have x0 : 0 ≤ rnd t a b := by rw [e]; exact Int.emod_nonneg _ (by omega)
      have x1 : rnd t a b < t - 1 := by rw [e]; exact Int.emod_lt_of_pos _ (by omega)
      generalize rnd t a b = x at *
      have j1 : j = 0 ∨ j = 1 ∨ j = -1 := by
        have : -2 < j := by
          apply Int.not_le.mp
          intro z
          have := Int.mul_le_mul_of_nonneg_left (c := t - 1) z (by omega)
          omega
        have : j < 2 := by
          apply Int.not_le.mp
          intro z
          have := Int.mul_le_mul_of_nonneg_left (c := t - 1) z (by omega)
          omega
        omega
      refine ⟨x0, x1, ?_, ?_⟩
      · unfold opp
        rw [if_neg e1]
        rcases j1 with rfl | rfl | rfl
        · rw [if_neg (by omega)]; exact emod_of (k := 0) (by omega) b0 (by omega)
        · rw [if_neg (by omega)]; exact emod_of (k := 1) (by omega) b0 (by omega)
        · rw [if_neg (by omega)]; exact emod_of (k := -1) (by omega) b0 (by omega)
      · unfold opp
        rw [if_neg e2]
        rcases j1 with rfl | rfl | rfl
        · rw [if_neg (by omega)]; exact emod_of (k := 0) (by omega) a0 (by omega)
        · rw [if_neg (by omega)]; exact emod_of (k := 1) (by omega) a0 (by omega)
        · rw [if_neg (by omega)]; exact emod_of (k := -1) (by omega) a0 (by omega)
end
end EM
namespace EM
open PySem PySem.Spec PyProof.Rows L2
/-! a def of the text by its name, its promise, its call -/
structure DefAt (K : PySem.W.Frag) (mg : Str → Option Value) (x : Str) (st : Stmt) (ps : List Str) : Prop where
  ex : ∃ (f : Addr) (fd : FuncData), Fun K x x st f fd ∧ Binds K fd ps [] ∧ mg x = some (.ref f)
structure Fn (P : Program) (w : World) (K : PySem.W.Frag) (mg : Str → Option Value) (base : Heap) (x : Str) (ps : List Str) (k : Nat) (sp : Sp) : Prop where
  ex : ∃ (f : Addr) (fd : FuncData), FnOk P w K mg base CX0 k f fd ps sp ∧ mg x = some (.ref f) ∧ PySem.W.keepIn K (.ref f) = true ∧ Binds K fd ps []
theorem DefAt.fn {P : Program} {w : World} {K : PySem.W.Frag} {mg : Str → Option Value} {base : Heap} {x : Str} {st : Stmt} {ps N : List Str} {k : Nat} {sp : Sp} (d : DefAt K mg x st ps) (S : FnScope N ps (defScope st)) (len : ∀ vs H Q E, sp vs H Q E → vs.length = ps.length)
    (body : ∀ (f : Addr) (cdv : Value) (A : Around) (outer : List Env) (s : Shared) (H : Hp) (vs : List V) (Q : VK) (E : XK), Room k (A.deeper (envOfC x (defScope st) s.heap.objs.size f cdv)) → sp vs H Q E →
      ∃ t, PSs (cxOf CX0 P w K mg base N x (defScope st) f cdv A outer s H E).nox (defBody st) t ∧ t { nx := fun _ H' => Q .non H', rt := Q } (start N vs) H) : Fn P w K mg base x ps (k + 1) sp := by
  obtain ⟨f, fd, F, b, m⟩ := d.ex
  exact ⟨f, fd, F.ok S len fun cdv A outer s H vs Q E hr h => body f cdv A outer s H vs Q E hr h, m, F.kp, b⟩
section
variable {X : Cx} {x : Str} {ps : List Str} {k : Nat} {sp : Sp} {e : Expr} {es : List Expr} {t : TA} {p pos : Pos}
theorem pe_f (F : Fn X.prog X.w X.K X.mg X.base x ps k sp) {j : Nat} (hr : Room j X.A) (hj : k ≤ j) (hg : Gl X x) (ha : PA X (e :: es) t) (hdb : (x == ("__debug__" : Str)) = false := by decide)
    (he : starEach (e :: es) X.env = (false, eval e X.env) :: starEach es X.env := by rfl) (hpl : (backTo pos (starEach es X.env)).any (·.1) = false := by rfl) :
    PE X (.Call (.Name x p) (e :: es) [] pos) (tCall sp [] E0 t) := by
  obtain ⟨f, fd, G, m, kp, b⟩ := F.ex
  exact pe_call G (hr.mono hj) hg m kp b .nil pass0 ha hdb he hpl
end
theorem same_upd {H : Hp} {p : Addr} {o : HO} (h : H p = none) : Same H (upd H p o) := fun b u e => by
  rw [upd_ne (ne_of_none e h)]
  exact e
theorem itT {c A B : Prop} [Decidable c] (h : c) (a : A) : if decide c = true then A else B := by
  rw [decide_eq_true h, if_pos rfl]
  exact a
theorem itF {c A B : Prop} [Decidable c] (h : ¬ c) (b : B) : if decide c = true then A else B := by
  rw [decide_eq_false h, if_neg Bool.false_ne_true]
  exact b
theorem itNb {b : Bool} {A B : Prop} (h : b = true) (x : B) : if (!b) = true then A else B := by
  subst h
  exact x
/-! numbers of any size in * -/
def CMulH (i j : Int) : Prop := i.natAbs.log2 + j.natAbs.log2 < 100000000
theorem bits_le (z : Int) : Builtin.Int.intBits z ≤ z.natAbs.log2 + 1 := by
  unfold Builtin.Int.intBits
  by_cases h : z.natAbs = 0 <;> simp_all <;> omega
theorem CMulH.fits {i j : Int} (h : CMulH i j) : IntMulOk i j := by
  unfold IntMulOk
  intro hz
  rw [Bool.and_eq_true] at hz
  have big := hz.2
  unfold Builtin.Int.intTooBig at big
  have big := of_decide_eq_true big
  have line : bitsLine = 134217728 := by decide
  have hi := bits_le i
  have hj := bits_le j
  unfold CMulH at h
  omega
theorem op_mulH {X : Cx} : OpR X (binaryOp .Mult) (rI CMulH fun i j => .int (i * j)) := opI fun _ _ _ _ _ _ _ hc q => mul_int q (CMulH.fits hc)
/-- what the walk leans on of the names that the top leaves alone -/
structure Names (mg : Str → Option Value) : Prop where
  isinst : mg "isinstance" = none
  int : mg "int" = none
  bool : mg "bool" = none
  range : mg "range" = none
  len : mg "len" = none
  all : mg "all" = none
  any : mg "any" = none
  min : mg "min" = none
  max : mg "max" = none
/-! written tuples of numbers that are picked from -/
def posB (b : Int) : V → Bool
  | .int i => decide (0 < i) && decide (i ≤ b)
  | _ => false
theorem pick {b : Int} {xs : List V} (h : xs.all (posB b) = true) {j : Nat} (hj : j < xs.length) : ∃ p : Int, xs[j]? = some (.int p) ∧ 0 < p ∧ p ≤ b := by
  have h1 := List.all_eq_true.mp h _ (List.getElem_mem hj)
  cases e : xs[j] with
  | int p =>
    rw [e] at h1
    simp only [posB, Bool.and_eq_true, decide_eq_true_eq] at h1
    exact ⟨p, by rw [List.getElem?_eq_getElem hj, e], h1.1, h1.2⟩
  | _ =>
    rw [e] at h1
    exact absurd h1 (by simp [posB])
theorem pickI {b i : Int} {xs : List V} (h : xs.all (posB b) = true) (i0 : 0 ≤ i) (i1 : i < (xs.length : Int)) : ∃ p : Int, atI xs i = some (.int p) ∧ 0 < p ∧ p ≤ b := by
  obtain ⟨p, e, p0, p1⟩ := pick h (j := i.toNat) (by omega)
  refine ⟨p, ?_, p0, p1⟩
  have := atI_nat e
  rw [show ((i.toNat : Nat) : Int) = i by omega] at this
  exact this
abbrev bits20 (c : Int) : Prop := c.natAbs.log2 ≤ 1048576
theorem log2_lt_self (n : Nat) : n.log2 ≤ n := by
  rcases Nat.eq_zero_or_pos n with rfl | h
  · decide
  · have := Nat.log2_self_le (show n ≠ 0 by omega)
    have : n.log2 < 2 ^ n.log2 := Nat.lt_two_pow_self
    omega
theorem take_snoc {α : Type} {xs : List α} {i : Nat} {x : α} (h : xs[i]? = some x) : xs.take (i + 1) = xs.take i ++ [x] := by
  rw [List.take_add_one, h]
  rfl
theorem all_rep (n : Nat) : (List.replicate n true).all id = true := by
  rw [List.all_eq_true]
  intro x hx
  rw [(List.mem_replicate.mp hx).2]
  rfl
theorem dec_int {x y : Int} : decide (V.int x = V.int y) = decide (x = y) := decide_eq_decide.mpr ⟨V.int.inj, congrArg V.int⟩
end EM
namespace EM
open PySem PySem.Spec PyProof.Rows L2
/-! max(o.values()) over a dict whose keys are tuples, its values whole numbers -/
def tMaxT (td : TE) : TE := fun σ H Q => td σ H fun x G => ∃ (a : Addr) (kvs : List (List Key × V)) (is : List Int), x = V.ref a ∧ G a = some (.dT kvs) ∧ kvs.map (·.2) = is.map V.int ∧ is ≠ [] ∧ ∀ m, m ∈ is → (∀ j ∈ is, j ≤ m) → Q (.int m) G
theorem vals_at {H : Hp} {kvs : List (List Key × V)} {xs : List (List Key × Addr × Value)} (r : KT H kvs xs) : ∀ {i : Nat} {y : List Key × Addr × Value}, xs[i]? = some y → ∃ z, kvs[i]? = some z ∧ RelV z.2 y.2.2 := by
  induction r with
  | nil =>
    intro i y e
    exact absurd e (by simp)
  | cons hd tl ih =>
    intro i y e
    rcases i with _ | i
    · cases (Option.some.inj (show some _ = some y from e))
      exact ⟨_, rfl, hd.2.2⟩
    · obtain ⟨z, z1, z2⟩ := ih (i := i) (y := y) (by simpa using e)
      exact ⟨z, by simpa using z1, z2⟩
theorem kt_len {H : Hp} {kvs : List (List Key × V)} {xs : List (List Key × Addr × Value)} (r : KT H kvs xs) : kvs.length = xs.length := Paired.length r
section
variable {X : Cx} {o : Expr} {p pos apos mpos : Pos} {td : TE}
theorem pe_maxT (calm : X.calm = true) (gl : Gl X "max") (free : X.mg "max" = none) (ho : PE X o td) (hb : attributeBase o "values" X.env (eval o X.env) = eval o X.env := by rfl) (hl : (apos.endLine == mpos.line) = true := by rfl)
    (hse : starEach [Expr.Call (.Attribute o "values" apos) [] [] mpos] X.env = [(false, eval (Expr.Call (.Attribute o "values" apos) [] [] mpos) X.env)] := by rfl) :
    PE X (.Call (.Name "max" p) [.Call (.Attribute o "values" apos) [] [] mpos] [] pos) (tMaxT td) := by
  refine ⟨fun pins s σ H Q I hq => ?_⟩
  refine wpAny_Call_Name_kw (ld_blt I gl free (u := .builtin "max") boot_max ?_ (by decide) (by decide))
  rw [hse]
  refine PySem.callWith_builtin1 (wpAny_Call_method0_late hb hl (thn (ho.run pins s σ H _ I hq) fun v s1 ⟨x, G, I1, rv, a, kvs, is, ex, ga, ev, ne, q⟩ => ?_))
  subst ex
  cases (show v = Value.ref a from rv)
  obtain ⟨_, sys, xs, kt, dof⟩ := dt_of I1.hok ga
  obtain ⟨es, ep, raw, size, items⟩ := Heap.DictOfH.raw dof
  have raw0 := raw
  obtain ⟨ob, hob, hex, hdata⟩ := raw0
  refine ⟨"dict", "dict.values", F.plainAttrs_dict, F.slot_dict_values, F.type_dict_values, ⟨ob, hob, hex.1⟩, fun b e => ?_, Calls.callWith_builtin rfl (PySem.evalArgs_none ?_)⟩
  · cases e
    exact ⟨ob, hob, hex.2.1⟩
  refine call_meetsIn F.slot_dict_values ⟨ob, hob, hex.1⟩ F.entry_dict_values (F.args_dict_values_1 _) (meets_dict_values_raw a sys) ⟨⟨es, ep, raw⟩, ?_⟩
  have keep : ∀ b u, s1.heap.get? b = some u → (s1.heap.push { cls := .type "dict_values", data := .fields #[.ref a] }).get? b = some u := fun b u e => Heap.get?_push_of_some _ e
  have raw1 : (s1.heap.push { cls := .type "dict_values", data := .fields #[.ref a] }).DictRaw a es ep := raw.at fun u e => keep a u e
  have len : es.size = is.length := by
    have e1 := congrArg List.length ev
    rw [List.length_map, List.length_map] at e1
    rw [size, ← kt_len kt, e1]
  have some1 : 0 < es.size := by
    rw [len]
    exact List.length_pos_iff.mpr ne
  have hval : ∀ (i : Nat) (v : Value), (∃ hi : i < es.size, v = es[i].val) → ∃ t, v = Value.int (is.getD i 0) t := fun i v ⟨hi, hv⟩ => by
    obtain ⟨y, hy, _, hy2, _⟩ := items i hi
    obtain ⟨z, hz, hz2⟩ := vals_at kt hy
    have e1 : (kvs.map (·.2))[i]? = some z.2 := by rw [List.getElem?_map, hz]; rfl
    rw [ev, List.getElem?_map] at e1
    obtain ⟨j, hj, e2⟩ := Option.map_eq_some_iff.mp e1
    rw [← e2] at hz2
    obtain ⟨t, e3⟩ := hz2
    refine ⟨t, ?_⟩
    rw [hv, hy2, e3, List.getD_eq_getElem?_getD, hj]
    rfl
  refine call_max_walk (wpAny_pyIter_values_raw (v := s1.heap.objs.size) (d := a) ⟨_, Heap.get?_push_size _ rfl, rfl, rfl⟩ raw1 ?_)
  have alt : a < s1.heap.objs.size := Heap.lt_size hob
  have grown : (s1.heap.push { cls := .type "dict_values", data := .fields #[.ref a] }).objs.size = s1.heap.objs.size + 1 := Heap.size_push _ _
  refine ⟨_, _, _, _, _, _, _, rfl, Walks.rawValues (A := X.A.in1) (I.ok.hd calm) (s1.heap.push { cls := .type "dict_values", data := .fields #[.ref a] }).objs.size a (fun z => absurd alt (by rw [z, grown]; exact Nat.not_lt.mpr (Nat.le_succ _))) es ep,
    ⟨⟨_, Heap.get?_push_size _ rfl, rfl, rfl⟩, raw1.at fun u e => Heap.get?_push_of_some _ e⟩, fun b hb => ?_, some1, CmpOf.ints_gt (fun i => is.getD i 0) hval, fun v h' tk hP hk => ?_⟩
  · show b < ((s1.heap.push _).push _).objs.size
    rw [Heap.size_push, Heap.size_push]
    rw [grown] at hb
    rcases List.mem_cons.mp hb with e | hb
    · rw [e]
      exact Nat.lt_succ_self _
    · rw [show b = a from List.mem_singleton.mp hb]
      exact Nat.lt_succ_of_lt (Nat.lt_succ_of_lt alt)
  · obtain ⟨t, rfl⟩ := hval _ v hP
    obtain ⟨b1, b2⟩ := argBest_gt (fun i => is.getD i 0) (es.size - 1)
    refine ⟨.int _, G, I1.kept (t' := tk) fun b u e => hk b u (fun hm => ?_) (Heap.get?_push_of_some _ (keep b u e)), ⟨t, rfl⟩, q _ ?_ fun j hj => ?_⟩
    · have e1 : b = (s1.heap.push { cls := .type "dict_values", data := .fields #[.ref a] }).objs.size := List.mem_singleton.mp hm
      have e2 := Heap.lt_size e
      rw [e1, grown] at e2
      exact absurd e2 (Nat.not_lt.mpr (Nat.le_succ _))
    · have hlt : argBest (fun i j => decide (is.getD i 0 > is.getD j 0)) (es.size - 1) < is.length := by omega
      rw [List.getD_eq_getElem?_getD, List.getElem?_eq_getElem hlt]
      exact List.getElem_mem hlt
    · obtain ⟨i, hi, e⟩ := List.mem_iff_getElem.mp hj
      have e2 : is.getD i 0 = j := by
        rw [List.getD_eq_getElem?_getD, List.getElem?_eq_getElem hi, ← e]
        rfl
      rw [← e2]
      exact b2 i (by omega)
end
end EM
namespace EM
open PySem PySem.Spec PyProof.Rows L2
/-! ### plans of pairs: what is counted -/
/-- whether a team is in a pair -/
def hasB (c : Int) (p : Int × Int) : Bool := inV (.int c) [.int p.1, .int p.2]
theorem hasB_iff {c : Int} {p : Int × Int} : hasB c p = true ↔ p.1 = c ∨ p.2 = c := by
  unfold hasB inV
  simp [eqV, List.any_cons]
def cntOf (row : List (Int × Int)) (c : Int) : Nat := (row.filter (hasB c)).length
def bothB (a b : Int) (p : Int × Int) : Bool := hasB a p && hasB b p
def oftenOf (pl : List (List (Int × Int))) (a b : Int) : Nat := (pl.map fun row => (row.filter (bothB a b)).length).sum
/-- two teams of a pair, the lesser count first, as a key -/
def keyOf (p : Int × Int) : List Key := [.inl (if p.2 < p.1 then p.2 else p.1), .inl (if p.2 > p.1 then p.2 else p.1)]
def keysOf (pl : List (List (Int × Int))) : List (List Key) := pl.flatten.map keyOf
theorem inl_eq {x y : Int} (h : (Sum.inl x : Key) = Sum.inl y) : x = y := Sum.inl.inj h
theorem key_lo {a b : Int} (h : a < b) : keyOf (a, b) = [.inl a, .inl b] := by
  unfold keyOf
  rw [if_neg (by show ¬ b < a; omega), if_pos (by show b > a; omega)]
theorem key_hi {a b : Int} (h : a < b) : keyOf (b, a) = [.inl a, .inl b] := by
  unfold keyOf
  rw [if_pos (by show a < b; omega), if_neg (by show ¬ a > b; omega)]
theorem key_eq {p q : Int × Int} (h : keyOf p = keyOf q) : (p.1 = q.1 ∧ p.2 = q.2) ∨ (p.1 = q.2 ∧ p.2 = q.1) := by
  unfold keyOf at h
  have h1 := inl_eq (List.cons.inj h).1
  have h2 := inl_eq (List.cons.inj (List.cons.inj h).2).1
  by_cases a : p.2 < p.1 <;> by_cases b : q.2 < q.1
  · rw [if_pos a, if_pos b] at h1
    rw [if_neg (by omega), if_neg (by omega)] at h2
    exact .inl ⟨h2, h1⟩
  · rw [if_pos a, if_neg b] at h1
    by_cases c : q.2 > q.1
    · rw [if_neg (by omega), if_pos c] at h2
      exact .inr ⟨h2, h1⟩
    · rw [if_neg (by omega), if_neg c] at h2
      omega
  · rw [if_neg a, if_pos b] at h1
    by_cases c : p.2 > p.1
    · rw [if_pos c, if_neg (by omega)] at h2
      exact .inr ⟨h1, h2⟩
    · rw [if_neg c, if_neg (by omega)] at h2
      omega
  · rw [if_neg a, if_neg b] at h1
    by_cases c : p.2 > p.1 <;> by_cases e : q.2 > q.1
    · rw [if_pos c, if_pos e] at h2
      exact .inl ⟨h1, h2⟩
    · rw [if_pos c, if_neg e] at h2
      omega
    · rw [if_neg c, if_pos e] at h2
      omega
    · rw [if_neg c, if_neg e] at h2
      omega
/-! ### a list with its first ones kept: the table's keys -/
section
variable {κ : Type} [DecidableEq κ]
def firsts : List κ → List κ → List κ
  | acc, [] => acc
  | acc, k :: r => firsts (if k ∈ acc then acc else acc ++ [k]) r
def heads (ks : List κ) : List κ := firsts [] ks
theorem firsts_app (acc ks : List κ) (k : κ) : firsts acc (ks ++ [k]) = if k ∈ firsts acc ks then firsts acc ks else firsts acc ks ++ [k] := by
  induction ks generalizing acc with
  | nil => rfl
  | cons x r ih => exact ih _
theorem heads_app (ks : List κ) (k : κ) : heads (ks ++ [k]) = if k ∈ heads ks then heads ks else heads ks ++ [k] := firsts_app [] ks k
theorem mem_firsts {acc ks : List κ} {x : κ} : x ∈ firsts acc ks ↔ x ∈ acc ∨ x ∈ ks := by
  induction ks generalizing acc with
  | nil => simp [firsts]
  | cons k r ih =>
    show x ∈ firsts (if k ∈ acc then acc else acc ++ [k]) r ↔ _
    rw [ih]
    by_cases h : k ∈ acc
    · rw [if_pos h, List.mem_cons]
      constructor
      · rintro (h1 | h1)
        · exact .inl h1
        · exact .inr (.inr h1)
      · rintro (h1 | h1 | h1)
        · exact .inl h1
        · exact .inl (h1 ▸ h)
        · exact .inr h1
    · rw [if_neg h, List.mem_append, List.mem_singleton, List.mem_cons]
      constructor
      · rintro ((h1 | h1) | h1)
        · exact .inl h1
        · exact .inr (.inl h1)
        · exact .inr (.inr h1)
      · rintro (h1 | h1 | h1)
        · exact .inl (.inl h1)
        · exact .inl (.inr h1)
        · exact .inr h1
theorem mem_heads {ks : List κ} {x : κ} : x ∈ heads ks ↔ x ∈ ks := by
  unfold heads
  rw [mem_firsts]
  simp
theorem firsts_nodup {acc ks : List κ} (h : acc.Nodup) : (firsts acc ks).Nodup := by
  induction ks generalizing acc with
  | nil => exact h
  | cons k r ih =>
    refine ih ?_
    by_cases m : k ∈ acc
    · rw [if_pos m]
      exact h
    · rw [if_neg m, List.nodup_append]
      refine ⟨h, by simp, fun a ha b hb e => m ?_⟩
      rw [← List.mem_singleton.mp hb, ← e]
      exact ha
theorem heads_nodup (ks : List κ) : (heads ks).Nodup := firsts_nodup List.nodup_nil
theorem heads_len (ks : List κ) : (heads ks).length ≤ ks.length := by
  have : ∀ acc : List κ, (firsts acc ks).length ≤ acc.length + ks.length := by
    induction ks with
    | nil => intro acc; exact Nat.le_refl _
    | cons k r ih =>
      intro acc
      refine Nat.le_trans (ih _) ?_
      rw [List.length_cons]
      by_cases m : k ∈ acc
      · rw [if_pos m]
        omega
      · rw [if_neg m, List.length_append, List.length_singleton]
        omega
  have := this []
  simpa [heads] using this
theorem sub_len : ∀ {l m : List κ}, l.Nodup → (∀ x ∈ l, x ∈ m) → l.length ≤ m.length
  | [], m, _, _ => Nat.zero_le _
  | x :: l, m, nd, h => by
    have nd := List.nodup_cons.mp nd
    have hx : x ∈ m := h x List.mem_cons_self
    have := sub_len (l := l) (m := m.erase x) nd.2 fun y hy => by
      have ne : y ≠ x := fun e => nd.1 (e ▸ hy)
      exact (List.mem_erase_of_ne ne).mpr (h y (List.mem_cons_of_mem _ hy))
    rw [List.length_erase_of_mem hx] at this
    have := List.length_pos_of_mem hx
    rw [List.length_cons]
    omega
theorem full_of_len {l m : List κ} (nd : l.Nodup) (h : ∀ x ∈ l, x ∈ m) (le : m.length ≤ l.length) : ∀ x ∈ m, x ∈ l := fun x hx => by
  by_cases e : x ∈ l
  · exact e
  · have := sub_len (l := x :: l) (m := m) (List.nodup_cons.mpr ⟨e, nd⟩) fun y hy => by
      rcases List.mem_cons.mp hy with rfl | hy
      · exact hx
      · exact h y hy
    rw [List.length_cons] at this
    omega
/-! the table that counts -/
def cntK (ks : List κ) (k : κ) : Nat := ks.count k
theorem cntK_nil (k : κ) : cntK [] k = 0 := rfl
theorem cntK_cons (x : κ) (ks : List κ) (k : κ) : cntK (x :: ks) k = cntK ks k + if x = k then 1 else 0 := by
  unfold cntK
  rw [List.count_cons]
  by_cases e : x = k
  · rw [if_pos e, if_pos (by simpa using e)]
  · rw [if_neg e, if_neg (by simpa using e)]
theorem cntK_app (a b : List κ) (k : κ) : cntK (a ++ b) k = cntK a k + cntK b k := List.count_append
theorem cntK_pos {ks : List κ} {k : κ} (h : 0 < cntK ks k) : k ∈ ks := List.count_pos_iff.mp h
theorem cntK_mem {ks : List κ} {k : κ} (h : k ∈ ks) : 0 < cntK ks k := List.count_pos_iff.mpr h
theorem cntK_none {ks : List κ} {k : κ} (h : k ∉ ks) : cntK ks k = 0 := List.count_eq_zero.mpr h
def tal (ks : List κ) : List (κ × V) := (heads ks).map fun k => (k, V.int ((cntK ks k : Nat) : Int))
theorem map_val {f : κ → V} {k : κ} : ∀ {l : List κ}, valV (l.map fun x => (x, f x)) k = if k ∈ l then some (f k) else none
  | [] => rfl
  | x :: l => by
    rw [List.map_cons]
    by_cases e : x = k
    · rw [valV_pos (p := (x, f x)) e, if_pos (by rw [e]; exact List.mem_cons_self), e]
    · have ih := map_val (f := f) (k := k) (l := l)
      rw [valV_neg (p := (x, f x)) e, ih]
      by_cases m : k ∈ l
      · rw [if_pos m, if_pos (List.mem_cons_of_mem _ m)]
      · rw [if_neg m, if_neg]
        intro h
        rcases List.mem_cons.mp h with h | h
        · exact e h.symm
        · exact m h
theorem tal_val (ks : List κ) (k : κ) : ((valV (tal ks) k).getD (.int 0)) = V.int ((cntK ks k : Nat) : Int) := by
  unfold tal
  rw [map_val]
  by_cases m : k ∈ heads ks
  · rw [if_pos m]
    rfl
  · rw [if_neg m]
    rw [mem_heads] at m
    rw [cntK_none m]
    rfl
theorem tal_put (ks : List κ) (k : κ) : putK (tal ks) k (.int (((cntK ks k : Nat) : Int) + 1)) = tal (ks ++ [k]) := by
  have ck : cntK (ks ++ [k]) k = cntK ks k + 1 := by rw [cntK_app, cntK_cons, if_pos rfl]; rfl
  have cx : ∀ x, x ≠ k → cntK (ks ++ [k]) x = cntK ks x := fun x hx => by
    rw [cntK_app, cntK_cons, if_neg (fun e => hx e.symm)]
    rfl
  unfold putK
  rw [valV_any]
  unfold tal
  rw [map_val, heads_app]
  by_cases m : k ∈ heads ks
  · rw [if_pos m, if_pos m, Option.isSome_some, if_pos rfl, List.map_map]
    refine List.map_congr_left fun x hx => ?_
    show (if x = k then (x, V.int (((cntK ks k : Nat) : Int) + 1)) else (x, V.int ((cntK ks x : Nat) : Int))) = _
    by_cases e : x = k
    · rw [if_pos e, e, ck]
      rfl
    · rw [if_neg e, cx x e]
  · rw [if_neg m, if_neg m, if_neg (by simp), List.map_append]
    have mk : k ∉ ks := fun h => m (mem_heads.mpr h)
    congr 1
    · refine List.map_congr_left fun x hx => ?_
      have : x ≠ k := fun e => m (e ▸ hx)
      rw [cx x this]
    · show [(k, V.int (((cntK ks k : Nat) : Int) + 1))] = [(k, V.int ((cntK (ks ++ [k]) k : Nat) : Int))]
      rw [ck]
      rfl
end
/-! ### all pairs of so many teams -/
def allKeys : Nat → List (List Key)
  | 0 => []
  | n + 1 => allKeys n ++ (List.range n).map fun (a : Nat) => [.inl (a : Int), .inl (n : Int)]
theorem allKeys_len (n : Nat) : 2 * (allKeys n).length = n * (n - 1) := by
  induction n with
  | zero => rfl
  | succ n ih =>
    rw [allKeys, List.length_append, List.length_map, List.length_range, Nat.mul_add, ih]
    rcases n with _ | n
    · rfl
    · simp only [Nat.add_sub_cancel]
      rw [Nat.mul_comm (n + 1 + 1) (n + 1), Nat.mul_comm 2 (n + 1), ← Nat.mul_add]
theorem mem_allKeys {n : Nat} {k : List Key} : k ∈ allKeys n ↔ ∃ a b : Nat, a < b ∧ b < n ∧ k = [.inl (a : Int), .inl (b : Int)] := by
  induction n with
  | zero => simp [allKeys]
  | succ n ih =>
    rw [allKeys, List.mem_append, ih, List.mem_map]
    constructor
    · rintro (⟨a, b, h1, h2, rfl⟩ | ⟨a, h, rfl⟩)
      · exact ⟨a, b, h1, by omega, rfl⟩
      · exact ⟨a, n, List.mem_range.mp h, by omega, rfl⟩
    · rintro ⟨a, b, h1, h2, rfl⟩
      by_cases e : b < n
      · exact .inl ⟨a, b, h1, e, rfl⟩
      · have : b = n := by omega
        subst this
        exact .inr ⟨a, List.mem_range.mpr h1, rfl⟩
theorem allKeys_nodup (n : Nat) : (allKeys n).Nodup := by
  induction n with
  | zero => exact List.nodup_nil
  | succ n ih =>
    rw [allKeys, List.nodup_append]
    refine ⟨ih, ?_, ?_⟩
    · refine List.Pairwise.map _ (fun (a b : Nat) (h : a ≠ b) => ?_) (List.nodup_range (n := n))
      intro e
      have := inl_eq (List.cons.inj e).1
      omega
    · intro x hx y hy e
      subst e
      obtain ⟨a, b, h1, h2, rfl⟩ := mem_allKeys.mp hx
      obtain ⟨c, h3, h4⟩ := List.mem_map.mp hy
      have := inl_eq (List.cons.inj (List.cons.inj h4).2).1
      omega
end EM
namespace EM
open PySem PySem.Spec PyProof.Rows L2
/-- each pair is of two unlike teams among so many -/
def Valid (t : Int) (pl : List (List (Int × Int))) : Prop := ∀ row ∈ pl, ∀ p ∈ row, 0 ≤ p.1 ∧ p.1 < t ∧ 0 ≤ p.2 ∧ p.2 < t ∧ p.1 ≠ p.2
/-- some team is not just once in the row -/
def rowBad (t : Int) (row : List (Int × Int)) : Bool := (List.range t.toNat).any fun (c : Nat) => !decide (V.int ((cntOf row (c : Int) : Nat) : Int) = V.int 1)
def goodB (t : Int) (pl : List (List (Int × Int))) : Bool :=
  (pl.all fun row => !rowBad t row) && (decide (((heads (keysOf pl)).length : Int) = t * (t - 1) / 2) && decide (∀ k ∈ keysOf pl, cntK (keysOf pl) k = 1))
structure GoodP (t : Int) (pl : List (List (Int × Int))) : Prop where
  once : ∀ row ∈ pl, ∀ c : Int, 0 ≤ c → c < t → cntOf row c = 1
  meet : ∀ a b : Int, 0 ≤ a → a < b → b < t → oftenOf pl a b = 1
theorem rowBad_iff {t : Int} {row : List (Int × Int)} : rowBad t row = false ↔ ∀ c : Int, 0 ≤ c → c < t → cntOf row c = 1 := by
  unfold rowBad
  rw [List.any_eq_false]
  constructor
  · intro h c c0 c1
    have := h c.toNat (List.mem_range.mpr (by omega))
    rw [show ((c.toNat : Nat) : Int) = c by omega] at this
    have := V.int.inj (of_decide_eq_true (p := V.int ((cntOf row c : Nat) : Int) = V.int 1) (by simpa using this))
    omega
  · intro h c hc
    have := h (c : Int) (by omega) (by have := List.mem_range.mp hc; omega)
    rw [this]
    simp
/-- how often two teams are together is how often their key is told -/
theorem both_key {a b : Int} (ab : a < b) {p : Int × Int} (ne : p.1 ≠ p.2) : bothB a b p = decide (keyOf p = [.inl a, .inl b]) := by
  have : bothB a b p = true ↔ keyOf p = [.inl a, .inl b] := by
    unfold bothB
    rw [Bool.and_eq_true, hasB_iff, hasB_iff, ← key_lo ab]
    constructor
    · rintro ⟨h1 | h1, h2 | h2⟩
      · omega
      · rw [show p = (a, b) from Prod.ext h1 h2]
      · rw [show p = (b, a) from Prod.ext h2 h1, key_hi ab, key_lo ab]
      · omega
    · intro h
      rcases key_eq h with ⟨h1, h2⟩ | ⟨h1, h2⟩
      · exact ⟨.inl h1, .inr h2⟩
      · exact ⟨.inr h2, .inl h1⟩
  cases h : bothB a b p with
  | true => rw [decide_eq_true (this.mp h)]
  | false =>
    rw [decide_eq_false]
    intro e
    rw [this.mpr e] at h
    cases h
theorem count_filter_key {l : List (Int × Int)} (k : List Key) : cntK (l.map keyOf) k = (l.filter fun p => decide (keyOf p = k)).length := by
  induction l with
  | nil => rfl
  | cons p r ih =>
    rw [List.map_cons, cntK_cons, ih, List.filter_cons]
    by_cases e : keyOf p = k
    · rw [if_pos e, if_pos (decide_eq_true e)]
      rfl
    · rw [if_neg e, if_neg (by simpa using e)]
      rfl
theorem often_count {t : Int} {pl : List (List (Int × Int))} (hv : Valid t pl) {a b : Int} (ab : a < b) : oftenOf pl a b = cntK (keysOf pl) [.inl a, .inl b] := by
  unfold oftenOf keysOf
  induction pl with
  | nil => rfl
  | cons row r ih =>
    have hr : Valid t r := fun row' h => hv row' (List.mem_cons_of_mem _ h)
    rw [List.map_cons, List.sum_cons, ih hr, List.flatten_cons, List.map_append, cntK_app, count_filter_key (l := row)]
    congr 2
    refine List.filter_congr fun p hp => ?_
    have := hv row List.mem_cons_self p hp
    exact both_key ab this.2.2.2.2
theorem key_all {t : Int} {pl : List (List (Int × Int))} (hv : Valid t pl) {k : List Key} (h : k ∈ keysOf pl) : k ∈ allKeys t.toNat := by
  unfold keysOf at h
  obtain ⟨p, hp, rfl⟩ := List.mem_map.mp h
  obtain ⟨row, hr, hp⟩ := List.mem_flatten.mp hp
  obtain ⟨a0, a1, b0, b1, ne⟩ := hv row hr p hp
  refine mem_allKeys.mpr ?_
  by_cases h : p.1 < p.2
  · refine ⟨p.1.toNat, p.2.toNat, by omega, by omega, ?_⟩
    rw [show p = (p.1, p.2) from rfl, key_lo h, show ((p.1.toNat : Nat) : Int) = p.1 by omega, show ((p.2.toNat : Nat) : Int) = p.2 by omega]
  · have h : p.2 < p.1 := by omega
    refine ⟨p.2.toNat, p.1.toNat, by omega, by omega, ?_⟩
    rw [show p = (p.1, p.2) from rfl, key_hi h, show ((p.1.toNat : Nat) : Int) = p.1 by omega, show ((p.2.toNat : Nat) : Int) = p.2 by omega]
theorem all_len {t : Int} (t2 : 2 ≤ t) : (((allKeys t.toNat).length : Nat) : Int) = t * (t - 1) / 2 := by
  have h := allKeys_len t.toNat
  have h2 : 2 * (((allKeys t.toNat).length : Nat) : Int) = t * (t - 1) := by
    have := congrArg (fun n : Nat => (n : Int)) h
    simp only [Int.natCast_mul] at this
    rw [show ((t.toNat - 1 : Nat) : Int) = t - 1 by omega, show ((t.toNat : Nat) : Int) = t by omega] at this
    exact this
  omega
/-- the law's own way of asking is what the document asks -/
theorem goodB_iff {t : Int} {pl : List (List (Int × Int))} (t2 : 2 ≤ t) (hv : Valid t pl) : goodB t pl = true ↔ GoodP t pl := by
  unfold goodB
  rw [Bool.and_eq_true, Bool.and_eq_true, decide_eq_true_eq, decide_eq_true_eq, List.all_eq_true]
  have heads_sub : ∀ x ∈ heads (keysOf pl), x ∈ allKeys t.toNat := fun x hx => key_all hv (mem_heads.mp hx)
  have hall := all_len t2
  constructor
  · rintro ⟨h1, h2, h3⟩
    refine ⟨fun row hr => rowBad_iff.mp (by simpa using h1 row hr), fun a b a0 ab b1 => ?_⟩
    rw [often_count hv ab]
    refine h3 _ (mem_heads.mp (full_of_len (heads_nodup _) heads_sub (by omega) _ (mem_allKeys.mpr ⟨a.toNat, b.toNat, by omega, by omega, ?_⟩)))
    rw [show ((a.toNat : Nat) : Int) = a by omega, show ((b.toNat : Nat) : Int) = b by omega]
  · rintro ⟨h1, h2⟩
    have h3 : ∀ k ∈ allKeys t.toNat, cntK (keysOf pl) k = 1 := fun k hk => by
      obtain ⟨a, b, h3, h4, rfl⟩ := mem_allKeys.mp hk
      rw [← often_count hv (by omega)]
      exact h2 _ _ (by omega) (by omega) (by omega)
    refine ⟨fun row hr => by simpa using rowBad_iff.mpr (h1 row hr), ?_, fun k hk => h3 k (key_all hv hk)⟩
    have l1 := sub_len (heads_nodup _) heads_sub
    have l2 := sub_len (l := allKeys t.toNat) (m := heads (keysOf pl)) (allKeys_nodup _) fun k hk => by
      rw [mem_heads]
      have := h3 k hk
      exact cntK_pos (by omega)
    omega
end EM
namespace EM
open PySem PySem.Spec PyProof.Rows L2
/-! ### lists side by side -/
inductive All2 {α β : Type} (R : α → β → Prop) : List α → List β → Prop where
  | nil : All2 R [] []
  | cons {a : α} {b : β} {as : List α} {bs : List β} : R a b → All2 R as bs → All2 R (a :: as) (b :: bs)
section
variable {α β : Type} {R S : α → β → Prop}
theorem All2.len {as : List α} {bs : List β} (h : All2 R as bs) : as.length = bs.length := by
  induction h with
  | nil => rfl
  | cons _ _ ih => rw [List.length_cons, List.length_cons, ih]
theorem All2.mono {as : List α} {bs : List β} (h : All2 R as bs) (k : ∀ a b, R a b → S a b) : All2 S as bs := by
  induction h with
  | nil => exact .nil
  | cons h _ ih => exact .cons (k _ _ h) ih
theorem All2.app {as as' : List α} {bs bs' : List β} (h : All2 R as bs) (h' : All2 R as' bs') : All2 R (as ++ as') (bs ++ bs') := by
  induction h with
  | nil => exact h'
  | cons h _ ih => exact .cons h ih
theorem All2.snoc {as : List α} {bs : List β} {a : α} {b : β} (h : All2 R as bs) (r : R a b) : All2 R (as ++ [a]) (bs ++ [b]) := h.app (.cons r .nil)
theorem All2.at {as : List α} {bs : List β} (h : All2 R as bs) : ∀ {i : Nat} {a : α}, as[i]? = some a → ∃ b, bs[i]? = some b ∧ R a b := by
  induction h with
  | nil =>
    intro i a e
    exact absurd e (by simp)
  | cons h _ ih =>
    intro i a e
    rcases i with _ | i
    · cases (Option.some.inj (show some _ = some a from e))
      exact ⟨_, rfl, h⟩
    · exact ih (i := i) (by simpa using e)
theorem All2.at' {as : List α} {bs : List β} (h : All2 R as bs) : ∀ {i : Nat} {b : β}, bs[i]? = some b → ∃ a, as[i]? = some a ∧ R a b := by
  induction h with
  | nil =>
    intro i a e
    exact absurd e (by simp)
  | cons h _ ih =>
    intro i a e
    rcases i with _ | i
    · cases (Option.some.inj (show some _ = some a from e))
      exact ⟨_, rfl, h⟩
    · exact ih (i := i) (by simpa using e)
end
/-! ### a plan as it stands in memory -/
def PairAt (H : Hp) (v : V) (p : Int × Int) : Prop := ∃ q, v = .ref q ∧ H q = some (.tup [.int p.1, .int p.2])
def RowAt (H : Hp) (v : V) (row : List (Int × Int)) : Prop := ∃ q vs, v = .ref q ∧ H q = some (.lst vs) ∧ All2 (PairAt H) vs row
def PlanAt (H : Hp) (a : Addr) (pl : List (List (Int × Int))) : Prop := ∃ vs, H a = some (.lst vs) ∧ All2 (RowAt H) vs pl
theorem PairAt.mono {H H' : Hp} {v : V} {p : Int × Int} (s : Same H H') (h : PairAt H v p) : PairAt H' v p := by
  obtain ⟨q, e, h⟩ := h
  exact ⟨q, e, s _ _ h⟩
theorem RowAt.mono {H H' : Hp} {v : V} {row : List (Int × Int)} (s : Same H H') (h : RowAt H v row) : RowAt H' v row := by
  obtain ⟨q, vs, e, h, k⟩ := h
  exact ⟨q, vs, e, s _ _ h, k.mono fun _ _ => PairAt.mono s⟩
theorem PlanAt.mono {H H' : Hp} {a : Addr} {pl : List (List (Int × Int))} (s : Same H H') (h : PlanAt H a pl) : PlanAt H' a pl := by
  obtain ⟨vs, h, k⟩ := h
  exact ⟨vs, s _ _ h, k.mono fun _ _ => RowAt.mono s⟩
/-- the heap without what stands at F -/
def del (H : Hp) (F : Addr) : Hp := fun b => if b = F then none else H b
theorem del_ne {H : Hp} {F b : Addr} (h : b ≠ F) : del H F b = H b := by unfold del; rw [if_neg h]
theorem del_le (H : Hp) (F : Addr) : Same (del H F) H := fun b o e => by
  unfold del at e
  by_cases h : b = F
  · rw [if_pos h] at e
    cases e
  · rw [if_neg h] at e
    exact e
theorem del_upd (H : Hp) (F : Addr) (o : HO) : Same (del H F) (upd H F o) := fun b u e => by
  by_cases h : b = F
  · rw [del, if_pos h] at e
    cases e
  · rw [upd_ne h]
    rw [del_ne h] at e
    exact e
theorem del_upd' (H : Hp) (F : Addr) (o : HO) : Same (del H F) (del (upd H F o) F) := fun b u e => by
  by_cases h : b = F
  · rw [del, if_pos h] at e
    cases e
  · rw [del_ne h, upd_ne h]
    rw [del_ne h] at e
    exact e
theorem del_same {H H' : Hp} (F : Addr) (s : Same H H') : Same (del H F) (del H' F) := fun b u e => by
  by_cases h : b = F
  · rw [del, if_pos h] at e
    cases e
  · rw [del_ne h] at e
    rw [del_ne h]
    exact s _ _ e
theorem PairAt.del {H : Hp} {F : Addr} {xs : List V} {v : V} {p : Int × Int} (hF : H F = some (.lst xs)) (h : PairAt H v p) : PairAt (del H F) v p := by
  obtain ⟨q, e, h⟩ := h
  have n : q ≠ F := fun z => by
    rw [z, hF] at h
    cases h
  exact ⟨q, e, by rw [del_ne n]; exact h⟩
theorem PairAt.upd {H : Hp} {F : Addr} {xs : List V} {o : HO} {v : V} {p : Int × Int} (hF : H F = some (.lst xs)) (h : PairAt H v p) : PairAt (upd H F o) v p :=
  (h.del hF).mono (del_upd H F o)
/-! ### the told plan, as lists -/
def rowOf (t r : Int) (n : Nat) : List (Int × Int) := ((List.range n).filter fun (a : Nat) => home t (a : Int) r).map fun (a : Nat) => ((a : Int), opp t (a : Int) r)
def planOf (t : Int) (n : Nat) : List (List (Int × Int)) := (List.range n).map fun (r : Nat) => rowOf t (r : Int) t.toNat
theorem rowOf_succ (t r : Int) (n : Nat) : rowOf t r (n + 1) = rowOf t r n ++ if home t (n : Int) r = true then [((n : Int), opp t (n : Int) r)] else [] := by
  unfold rowOf
  rw [List.range_succ, List.filter_append, List.map_append]
  congr 1
  cases h : home t (n : Int) r <;> simp [h]
theorem planOf_succ (t : Int) (n : Nat) : planOf t (n + 1) = planOf t n ++ [rowOf t (n : Int) t.toNat] := by
  unfold planOf
  rw [List.range_succ, List.map_append]
  rfl
theorem rowOf_len (t r : Int) (n : Nat) : (rowOf t r n).length ≤ n := by
  unfold rowOf
  rw [List.length_map]
  exact Nat.le_trans (List.length_filter_le _ _) (by rw [List.length_range]; exact Nat.le_refl _)
theorem planOf_len (t : Int) (n : Nat) : (planOf t n).length = n := by
  unfold planOf
  rw [List.length_map, List.length_range]
end EM
namespace EM
/-! ### the round in which a team breaks -/
def brk (a : Int) : Int := if a % 2 = 1 then a else a + 1
theorem brk_in {t a : Int} (T : TOk t) (a0 : 0 ≤ a) (h : a < t - 2) : 0 < brk a ∧ brk a < t - 1 := by
  have := T.even
  unfold brk
  by_cases e : a % 2 = 1
  · rw [if_pos e]
    omega
  · rw [if_neg e]
    omega
/-- a team is at home in a round as in the one ahead of it just in its told round -/
theorem home_turn {t a r : Int} (T : TOk t) (a0 : 0 ≤ a) (a1 : a < t) (r0 : 0 < r) (r1 : r < t - 1) : (home t a r = home t a (r - 1)) ↔ (a < t - 2 ∧ r = brk a) := by
  have t2 := T.two
  have te := T.even
  have iff2 : ∀ {p q : Prop} [Decidable p] [Decidable q], (decide p = decide q) ↔ (p ↔ q) := fun {p q} _ _ => decide_eq_decide
  by_cases e1 : a = t - 1
  · unfold home
    rw [if_pos e1, if_pos e1, iff2]
    omega
  · have h3 := emod3 (y := a - r) (m := t - 1) (by omega) (by omega) (by omega)
    have h4 := emod3 (y := a - (r - 1)) (m := t - 1) (by omega) (by omega) (by omega)
    unfold brk
    unfold home
    rw [if_neg e1, if_neg e1]
    generalize (a - r) % (t - 1) = u at *
    generalize (a - (r - 1)) % (t - 1) = v at *
    by_cases e2 : a = r
    · rw [if_pos e2, if_neg (show ¬ a = r - 1 by omega), iff2]
      by_cases e : a % 2 = 1
      · rw [if_pos e]
        omega
      · rw [if_neg e]
        omega
    · rw [if_neg e2]
      by_cases e3 : a = r - 1
      · rw [if_pos e3, iff2]
        by_cases e : a % 2 = 1
        · rw [if_pos e]
          omega
        · rw [if_neg e]
          omega
      · rw [if_neg e3, iff2]
        by_cases e : a % 2 = 1
        · rw [if_pos e]
          omega
        · rw [if_neg e]
          omega
end EM
namespace EM
open PySem PySem.Spec PyProof.Rows L2
/-! ### lists of things in memory, whatever the things are -/
structure Mon {β : Type} (R : Hp → V → β → Prop) : Prop where
  up : ∀ (H H' : Hp) (v : V) (x : β), Same H H' → R H v x → R H' v x
def LAt {β : Type} (R : Hp → V → β → Prop) (H : Hp) (v : V) (xs : List β) : Prop := ∃ q vs, v = .ref q ∧ H q = some (.lst vs) ∧ All2 (R H) vs xs
theorem monPair : Mon PairAt := ⟨fun _ _ _ _ s h => h.mono s⟩
theorem monRow : Mon RowAt := ⟨fun _ _ _ _ s h => h.mono s⟩
section
variable {β : Type} {R : Hp → V → β → Prop}
theorem LAt.mono (hR : Mon R) {H H' : Hp} {v : V} {xs : List β} (s : Same H H') (h : LAt R H v xs) : LAt R H' v xs := by
  obtain ⟨q, vs, e, h, k⟩ := h
  exact ⟨q, vs, e, s _ _ h, k.mono fun _ _ => hR.up _ _ _ _ s⟩
theorem monL (hR : Mon R) : Mon (LAt R) := ⟨fun _ _ _ _ s h => h.mono hR s⟩
theorem row_lat {H : Hp} {v : V} {row : List (Int × Int)} : RowAt H v row ↔ LAt PairAt H v row := Iff.rfl
theorem plan_lat {H : Hp} {a : Addr} {pl : List (List (Int × Int))} : PlanAt H a pl ↔ LAt RowAt H (.ref a) pl := by
  constructor
  · rintro ⟨vs, h, k⟩
    exact ⟨a, vs, rfl, h, k⟩
  · rintro ⟨q, vs, e, h, k⟩
    cases e
    exact ⟨vs, h, k⟩
theorem All2.take' {α γ : Type} {S : α → γ → Prop} {as : List α} {bs : List γ} (h : All2 S as bs) : ∀ n : Nat, All2 S (as.take n) (bs.take n) := by
  induction h with
  | nil => intro n; rw [List.take_nil, List.take_nil]; exact .nil
  | cons r _ ih =>
    intro n
    rcases n with _ | n
    · exact .nil
    · exact .cons r (ih n)
theorem All2.drop' {α γ : Type} {S : α → γ → Prop} {as : List α} {bs : List γ} (h : All2 S as bs) : ∀ n : Nat, All2 S (as.drop n) (bs.drop n) := by
  induction h with
  | nil => intro n; rw [List.drop_nil, List.drop_nil]; exact .nil
  | cons r t ih =>
    intro n
    rcases n with _ | n
    · exact .cons r t
    · exact ih n
theorem All2.rev' {α γ : Type} {S : α → γ → Prop} {as : List α} {bs : List γ} (h : All2 S as bs) : All2 S as.reverse bs.reverse := by
  induction h with
  | nil => exact .nil
  | cons r _ ih =>
    rw [List.reverse_cons, List.reverse_cons]
    exact ih.snoc r
theorem cut_to {xs : List V} {i : Int} (h : 0 ≤ i) : cutV xs none (some i) = xs.take i.toNat := by
  unfold cutV
  rw [show some i = some ((i.toNat : Nat) : Int) by rw [show ((i.toNat : Nat) : Int) = i by omega], HT.sIx_nat, HT.sIx_none, List.drop_zero, Nat.sub_zero]
  exact List.take_eq_take_iff.mpr (by omega)
theorem cut_from {xs : List V} {i : Int} (h : 0 ≤ i) : cutV xs (some i) none = xs.drop i.toNat := by
  unfold cutV
  rw [show some i = some ((i.toNat : Nat) : Int) by rw [show ((i.toNat : Nat) : Int) = i by omega], HT.sIx_nat, HT.sIx_none]
  by_cases hi : i.toNat ≤ xs.length
  · rw [Nat.min_eq_left hi]
    exact List.take_of_length_le (by rw [List.length_drop]; omega)
  · rw [Nat.min_eq_right (by omega), Nat.sub_self, List.drop_of_length_le (show xs.length ≤ i.toNat by omega)]
    rfl
theorem All2.up (hR : Mon R) {H H' : Hp} {vs : List V} {xs : List β} (k : All2 (R H) vs xs) (s : Same H H') : All2 (R H') vs xs := k.mono fun _ _ => hR.up _ _ _ _ s
/-! a new list -/
theorem new_lat (hR : Mon R) {H : Hp} {p : Addr} {vs : List V} {xs : List β} (np : H p = none) (h : All2 (R H) vs xs) : LAt R (upd H p (.lst vs)) (.ref p) xs :=
  ⟨p, vs, rfl, upd_same, h.mono fun _ _ => hR.up _ _ _ _ (same_upd np)⟩
theorem new_list (hR : Mon R) {H : Hp} {p : Addr} {vs : List V} {xs : List β} (np : H p = none) (h : All2 (R H) vs xs) : Same H (upd H p (.lst vs)) ∧ LAt R (upd H p (.lst vs)) (.ref p) xs := ⟨same_upd np, new_lat hR np h⟩
theorem new_to (hR : Mon R) {H : Hp} {p : Addr} {vs : List V} {xs : List β} {i : Int} (np : H p = none) (h : All2 (R H) vs xs) (hi : 0 ≤ i) : Same H (upd H p (.lst (cutV vs none (some i)))) ∧ LAt R (upd H p (.lst (cutV vs none (some i)))) (.ref p) (xs.take i.toNat) := by
  rw [cut_to hi]
  exact new_list hR np (h.take' _)
theorem new_from (hR : Mon R) {H : Hp} {p : Addr} {vs : List V} {xs : List β} {i : Int} (np : H p = none) (h : All2 (R H) vs xs) (hi : 0 ≤ i) : Same H (upd H p (.lst (cutV vs (some i) none))) ∧ LAt R (upd H p (.lst (cutV vs (some i) none))) (.ref p) (xs.drop i.toNat) := by
  rw [cut_from hi]
  exact new_list hR np (h.drop' _)
theorem new_cat (hR : Mon R) {H : Hp} {p : Addr} {vs us : List V} {xs ys : List β} (np : H p = none) (h : All2 (R H) vs xs) (k : All2 (R H) us ys) : Same H (upd H p (.lst (vs ++ us))) ∧ LAt R (upd H p (.lst (vs ++ us))) (.ref p) (xs ++ ys) :=
  new_list hR np (h.app k)
theorem new_rev (hR : Mon R) {H : Hp} {p : Addr} {vs : List V} {xs : List β} (np : H p = none) (h : All2 (R H) vs xs) : Same H (upd H p (.lst vs.reverse)) ∧ LAt R (upd H p (.lst vs.reverse)) (.ref p) xs.reverse :=
  new_list hR np h.rev'
theorem ix_lat {H : Hp} {vs : List V} {xs : List β} {x : β} {i : Int} (h : All2 (R H) vs xs) (hi : 0 ≤ i) (hx : xs[i.toNat]? = some x) : ∃ w, atI vs i = some w ∧ R H w x := by
  obtain ⟨w, hw, r⟩ := h.at' hx
  have := atI_nat hw
  rw [show ((i.toNat : Nat) : Int) = i by omega] at this
  exact ⟨w, this, r⟩
theorem cat_fits {m n : Nat} (h : m + n ≤ 5000) : m + n ≤ sizeLine := Nat.le_trans h (by decide)
/-! a list that is being made -/
def OAt (R : Hp → V → β → Prop) (H : Hp) (L : Addr) (xs : List β) : Prop := ∃ vs, H L = some (.lst vs) ∧ All2 (R (del H L)) vs xs
theorem OAt.new (R : Hp → V → β → Prop) {H : Hp} {L : Addr} : OAt R (upd H L (.lst [])) L [] := ⟨[], upd_same, .nil⟩
theorem OAt.keep (hR : Mon R) {H H' : Hp} {L : Addr} {xs : List β} (s : Same H H') (h : OAt R H L xs) : OAt R H' L xs := by
  obtain ⟨vs, e, k⟩ := h
  exact ⟨vs, s _ _ e, k.mono fun _ _ => hR.up _ _ _ _ (del_same L s)⟩
theorem OAt.close (hR : Mon R) {H : Hp} {L : Addr} {xs : List β} (h : OAt R H L xs) : LAt R H (.ref L) xs := by
  obtain ⟨vs, e, k⟩ := h
  exact ⟨L, vs, rfl, e, k.mono fun _ _ => hR.up _ _ _ _ (del_le H L)⟩
theorem OAt.len {H : Hp} {L : Addr} {xs : List β} {vs : List V} (h : OAt R H L xs) (e : H L = some (.lst vs)) : vs.length = xs.length := by
  obtain ⟨us, e', k⟩ := h
  cases (HO.lst.inj (Option.some.inj (e.symm.trans e')))
  exact k.len
/-- an item more -/
theorem OAt.push (hR : Mon R) {H : Hp} {L : Addr} {xs : List β} {v : V} {x : β} (h : OAt R H L xs) (hl : xs.length ≤ 5000) (r : R (del H L) v x) :
    ∃ acc, H L = some (.lst acc) ∧ acc.length < sizeLine ∧ OAt R (upd H L (.lst (acc ++ [v]))) L (xs ++ [x]) := by
  obtain ⟨vs, e, k⟩ := h
  refine ⟨vs, e, by rw [k.len]; exact Nat.lt_of_le_of_lt hl (by decide), _, upd_same, ?_⟩
  exact (k.mono fun _ _ => hR.up _ _ _ _ (del_upd' H L _)).snoc (hR.up _ _ _ _ (del_upd' H L _) r)
theorem same_push {H1 H4 : Hp} {D : Addr} {o : HO} (nD : H1 D = none) (s : Same H1 H4) : Same H1 (upd H4 D o) := fun b u e => by
  rw [upd_ne (ne_of_none e nD)]
  exact s _ _ e
theorem off_same {H1 H4 H5 : Hp} {D : Addr} (nD : H1 D = none) (s : Same H1 H4) (off : ∀ b, b ≠ D → H5 b = H4 b) : Same H1 H5 := fun b o e => by
  rw [off b (ne_of_none e nD)]
  exact s _ _ e
/-- what was there ahead of the list that is being made is there without it -/
theorem LAt.apart (hR : Mon R) {H1 H2 : Hp} {L : Addr} {v : V} {xs : List β} (nL : H1 L = none) (s : Same H1 H2) (h : LAt R H1 v xs) : LAt R (del H2 L) v xs := by
  refine h.mono hR fun b o e => ?_
  rw [del_ne (ne_of_none e nL)]
  exact s _ _ e
theorem same_apart {H1 H2 : Hp} {L : Addr} (nL : H1 L = none) (s : Same H1 H2) : Same H1 (del H2 L) := fun b o e => by
  rw [del_ne (ne_of_none e nL)]
  exact s _ _ e
/-- a row that stands elsewhere than the list that is being made -/
theorem row_apart {H : Hp} {L D : Addr} {vs : List V} {row : List (Int × Int)} (hL : H L = some (.lst vs)) (ne : D ≠ L) (h : LAt PairAt H (.ref D) row) : RowAt (del H L) (.ref D) row := by
  obtain ⟨q, us, e, h, k⟩ := h
  cases e
  exact ⟨D, us, rfl, by rw [del_ne ne]; exact h, k.mono fun _ _ => PairAt.del hL⟩
theorem pair_new {H : Hp} {D T : Addr} {vs : List V} {x y : Int} (hD : H D = some (.lst vs)) (nT : H T = none) : PairAt (del (upd H T (.tup [.int x, .int y])) D) (.ref T) (x, y) :=
  ⟨T, rfl, by rw [del_ne (ne_of_none hD nT).symm, upd_same]⟩
theorem OAt.make (hR : Mon R) {H : Hp} {S : Addr} {vs : List V} {xs : List β} (nS : H S = none) (h : All2 (R H) vs xs) : OAt R (upd H S (.lst vs)) S xs :=
  ⟨vs, upd_same, h.mono fun _ _ => hR.up _ _ _ _ (same_apart nS (same_upd nS))⟩
/-- things told without what stands at D -/
def Off (R : Hp → V → β → Prop) (D : Addr) : Hp → V → β → Prop := fun H v x => R (del H D) v x
theorem monOff (hR : Mon R) (D : Addr) : Mon (Off R D) := ⟨fun _ _ _ _ s h => hR.up _ _ _ _ (del_same D s) h⟩
theorem LAt.off (hR : Mon R) {H1 H : Hp} {D : Addr} {v : V} {xs : List β} (nD : H1 D = none) (s : Same H1 H) (h : LAt R H1 v xs) : LAt (Off R D) H v xs := by
  obtain ⟨q, vs, e, h, k⟩ := h
  exact ⟨q, vs, e, s _ _ h, k.mono fun _ _ => hR.up _ _ _ _ (same_apart nD s)⟩
theorem LAt.land {H : Hp} {D p : Addr} {xs : List β} (ne : p ≠ D) (h : LAt (Off R D) H (.ref p) xs) : LAt R (del H D) (.ref p) xs := by
  obtain ⟨q, vs, e, h, k⟩ := h
  cases e
  exact ⟨p, vs, rfl, by rw [del_ne ne]; exact h, k⟩
theorem LAt.spot {H : Hp} {p : Addr} {xs : List β} (h : LAt R H (.ref p) xs) : ∃ vs, H p = some (.lst vs) ∧ All2 (R H) vs xs := by
  obtain ⟨q, vs, e, h, k⟩ := h
  cases e
  exact ⟨vs, h, k⟩
theorem OAt.at {H : Hp} {L : Addr} {xs : List β} (h : OAt R H L xs) : ∃ vs, H L = some (.lst vs) := by
  obtain ⟨vs, e, _⟩ := h
  exact ⟨vs, e⟩
end
end EM
namespace EM
open PySem PySem.Spec PyProof.Rows L2
/-! ### plans that keep to what the document calls a plan, and that are not great -/
def VRow (t : Int) (row : List (Int × Int)) : Prop := ∀ p ∈ row, 0 ≤ p.1 ∧ p.1 < t ∧ 0 ≤ p.2 ∧ p.2 < t ∧ p.1 ≠ p.2
/-- how much room a plan takes -/
structure Sized (pl : List (List (Int × Int))) : Prop where
  few : pl.length ≤ 900
  row : ∀ row ∈ pl, row.length ≤ 900
  most : (keysOf pl).length ≤ 1000
structure Fit (t : Int) (pl : List (List (Int × Int))) : Prop where
  valid : Valid t pl
  sized : Sized pl
theorem flat_len {pl : List (List (Int × Int))} {M : Nat} (h : ∀ row ∈ pl, row.length ≤ M) : pl.flatten.length ≤ pl.length * M := by
  induction pl with
  | nil => exact Nat.zero_le _
  | cons r pl ih =>
    have h1 := h r List.mem_cons_self
    have h2 := ih fun row hr => h row (List.mem_cons_of_mem _ hr)
    rw [List.flatten_cons, List.length_append, List.length_cons, Nat.succ_mul]
    omega
theorem fit_of {t : Int} {pl : List (List (Int × Int))} (L M : Nat) (hv : ∀ row ∈ pl, VRow t row) (hL : pl.length ≤ L) (hM : ∀ row ∈ pl, row.length ≤ M) (h : L * M ≤ 1000) (l9 : L ≤ 900) (m9 : M ≤ 900) : Fit t pl := by
  refine ⟨hv, by omega, fun row hr => Nat.le_trans (hM row hr) m9, ?_⟩
  unfold keysOf
  rw [List.length_map]
  exact Nat.le_trans (flat_len hM) (Nat.le_trans (Nat.mul_le_mul_right M hL) h)
theorem VRow.sub {t : Int} {row row' : List (Int × Int)} (h : VRow t row) (s : ∀ p ∈ row', p ∈ row) : VRow t row' := fun p hp => h p (s p hp)
theorem VRow.app {t : Int} {a b : List (Int × Int)} (h : VRow t a) (k : VRow t b) : VRow t (a ++ b) := fun p hp => by
  rcases List.mem_append.mp hp with e | e
  · exact h p e
  · exact k p e
theorem VRow.one {t : Int} {x y : Int} (h : 0 ≤ x ∧ x < t ∧ 0 ≤ y ∧ y < t ∧ x ≠ y) : VRow t [(x, y)] := fun p hp => by
  rw [List.mem_singleton.mp hp]
  exact h
theorem VRow.nil {t : Int} : VRow t [] := fun p hp => absurd hp (by simp)
theorem mem_row {t r : Int} {n : Nat} {p : Int × Int} (h : p ∈ rowOf t r n) : 0 ≤ p.1 ∧ p.1 < n ∧ home t p.1 r = true ∧ p.2 = opp t p.1 r := by
  unfold rowOf at h
  obtain ⟨a, ha, rfl⟩ := List.mem_map.mp h
  obtain ⟨h1, h2⟩ := List.mem_filter.mp ha
  have := List.mem_range.mp h1
  exact ⟨Int.natCast_nonneg a, Int.ofNat_lt.mpr this, h2, rfl⟩
theorem mem_plan {t : Int} {n : Nat} {row : List (Int × Int)} (h : row ∈ planOf t n) : ∃ r : Nat, r < n ∧ row = rowOf t (r : Int) t.toNat := by
  unfold planOf at h
  obtain ⟨r, hr, rfl⟩ := List.mem_map.mp h
  exact ⟨r, List.mem_range.mp hr, rfl⟩
theorem told_valid {t : Int} (T : TOk t) {row : List (Int × Int)} (h : row ∈ planOf t (t - 1).toNat) : VRow t row := by
  obtain ⟨r, hr, rfl⟩ := mem_plan h
  intro p hp
  have t2 := T.two
  obtain ⟨h0, h1, _, h2⟩ := mem_row hp
  have a1 : p.1 < t := by omega
  have := opp_lt T h0 a1 (show 0 ≤ (r : Int) by omega) (by omega)
  have ne := opp_ne T h0 a1 (show 0 ≤ (r : Int) by omega) (by omega)
  rw [h2]
  exact ⟨h0, a1, this.1, this.2, fun e => ne e.symm⟩
theorem told_pos {t : Int} (T : TOk t) {row : List (Int × Int)} (h : row ∈ planOf t (t - 1).toNat) : 0 < row.length := by
  obtain ⟨r, hr, rfl⟩ := mem_plan h
  have t2 := T.two
  have ol := opp_lt T (show 0 ≤ (0 : Int) by omega) (by omega) (show 0 ≤ (r : Int) by omega) (by omega)
  have oh := home_opp T (show 0 ≤ (0 : Int) by omega) (by omega) (show 0 ≤ (r : Int) by omega) (by omega)
  have : ∃ a : Int, 0 ≤ a ∧ a < t ∧ home t a (r : Int) = true := by
    cases e : home t 0 (r : Int) with
    | true => exact ⟨0, by omega, by omega, e⟩
    | false =>
      rw [e] at oh
      exact ⟨_, ol.1, ol.2, oh⟩
  obtain ⟨a, a0, a1, ha⟩ := this
  refine List.length_pos_of_mem (a := (a, opp t a (r : Int))) ?_
  unfold rowOf
  refine List.mem_map.mpr ⟨a.toNat, List.mem_filter.mpr ⟨List.mem_range.mpr (by omega), ?_⟩, ?_⟩
  · rw [show ((a.toNat : Nat) : Int) = a by omega]
    exact ha
  · rw [show ((a.toNat : Nat) : Int) = a by omega]
theorem turn_ne {t a z : Int} (t2 : 2 ≤ t) (a0 : 0 ≤ a) (a1 : a < t) (z0 : 0 ≤ z) (z1 : z < t - 1) : 0 ≤ (a + 1 + z) % t ∧ (a + 1 + z) % t < t ∧ a ≠ (a + 1 + z) % t := by
  have h := emod3 (y := a + 1 + z) (m := t) (by omega) (by omega) (by omega)
  have h1 := Int.emod_nonneg (a + 1 + z) (show t ≠ 0 by omega)
  have h2 := Int.emod_lt_of_pos (a + 1 + z) (show 0 < t by omega)
  omega
theorem shift_ne {t a b s : Int} (t2 : 0 < t) (a0 : 0 ≤ a) (a1 : a < t) (b0 : 0 ≤ b) (b1 : b < t) (n : a ≠ b) (s0 : 0 ≤ s) (s1 : s < t) : 0 ≤ (a + s) % t ∧ (a + s) % t < t ∧ 0 ≤ (b + s) % t ∧ (b + s) % t < t ∧ (a + s) % t ≠ (b + s) % t := by
  have h := emod3 (y := a + s) (m := t) (by omega) (by omega) (by omega)
  have k := emod3 (y := b + s) (m := t) (by omega) (by omega) (by omega)
  have h1 := Int.emod_nonneg (a + s) (show t ≠ 0 by omega)
  have h2 := Int.emod_lt_of_pos (a + s) t2
  have k1 := Int.emod_nonneg (b + s) (show t ≠ 0 by omega)
  have k2 := Int.emod_lt_of_pos (b + s) t2
  omega
end EM
namespace EM
open PySem PySem.Spec PyProof.Rows L2
/-! ### the breaks of a plan by lists -/
def homeIn (row : List (Int × Int)) (c : Int) : Bool := inV (.int c) (row.map fun p => V.int p.1)
theorem homeIn_iff {row : List (Int × Int)} {c : Int} : homeIn row c = true ↔ ∃ p ∈ row, p.1 = c := by
  unfold homeIn inV
  rw [List.any_map, List.any_eq_true]
  constructor
  · rintro ⟨p, hp, h⟩
    exact ⟨p, hp, by simpa [eqV] using h⟩
  · rintro ⟨p, hp, h⟩
    exact ⟨p, hp, by simpa [eqV] using h⟩
def brkRow (r0 r1 : List (Int × Int)) (number : Int) (n : Nat) : List (Int × Int) := ((List.range n).filter fun (c : Nat) => decide (V.bl (homeIn r0 (c : Int)) = V.bl (homeIn r1 (c : Int)))).map fun (c : Nat) => (number, (c : Int))
def rowN (pl : List (List (Int × Int))) (i : Nat) : List (Int × Int) := (pl[i]?).getD []
def breaksTo (t : Int) (pl : List (List (Int × Int))) (n : Nat) : List (Int × Int) := ((List.range n).map fun (i : Nat) => brkRow (rowN pl i) (rowN pl (i + 1)) (1 + (i : Int)) t.toNat).flatten
def breaksOf (t : Int) (pl : List (List (Int × Int))) : List (Int × Int) := breaksTo t pl (pl.length - 1)
theorem breaksTo_succ (t : Int) (pl : List (List (Int × Int))) (n : Nat) : breaksTo t pl (n + 1) = breaksTo t pl n ++ brkRow (rowN pl n) (rowN pl (n + 1)) (1 + (n : Int)) t.toNat := by
  unfold breaksTo
  rw [List.range_succ, List.map_append, List.flatten_append]
  simp
theorem brkRow_succ (r0 r1 : List (Int × Int)) (number : Int) (n : Nat) : brkRow r0 r1 number (n + 1) = brkRow r0 r1 number n ++ if decide (V.bl (homeIn r0 (n : Int)) = V.bl (homeIn r1 (n : Int))) = true then [(number, (n : Int))] else [] := by
  unfold brkRow
  rw [List.range_succ, List.filter_append, List.map_append]
  congr 1
  rw [List.filter_cons, List.filter_nil]
  by_cases h : decide (V.bl (homeIn r0 (n : Int)) = V.bl (homeIn r1 (n : Int))) = true
  · rw [if_pos h, if_pos h]
    rfl
  · rw [if_neg h, if_neg h]
    rfl
theorem brkRow_len (r0 r1 : List (Int × Int)) (number : Int) (n : Nat) : (brkRow r0 r1 number n).length ≤ n := by
  unfold brkRow
  rw [List.length_map]
  exact Nat.le_trans (List.length_filter_le _ _) (by rw [List.length_range]; exact Nat.le_refl _)
theorem breaksTo_len (t : Int) (pl : List (List (Int × Int))) (n : Nat) : (breaksTo t pl n).length ≤ n * t.toNat := by
  induction n with
  | zero => exact Nat.zero_le _
  | succ n ih =>
    rw [breaksTo_succ, List.length_append, Nat.succ_mul]
    have := brkRow_len (rowN pl n) (rowN pl (n + 1)) (1 + (n : Int)) t.toNat
    omega
theorem flat_firsts (row : List (Int × Int)) : (row.map fun p => V.int p.1).all flatV = true := by
  rw [List.all_map, List.all_eq_true]
  intro p _
  rfl
/-! no good plan has fewer breaks than two less than its teams -/
theorem mem_brkRow {r0 r1 : List (Int × Int)} {number : Int} {n : Nat} {c : Nat} (h : c < n) (e : homeIn r0 (c : Int) = homeIn r1 (c : Int)) : (number, (c : Int)) ∈ brkRow r0 r1 number n := by
  unfold brkRow
  exact List.mem_map.mpr ⟨c, List.mem_filter.mpr ⟨List.mem_range.mpr h, decide_eq_true (congrArg V.bl e)⟩, rfl⟩
theorem mem_breaksOf {t : Int} {pl : List (List (Int × Int))} {i c : Nat} (hi : i + 1 < pl.length) (hc : c < t.toNat) (e : homeIn (rowN pl i) (c : Int) = homeIn (rowN pl (i + 1)) (c : Int)) : (1 + (i : Int), (c : Int)) ∈ breaksOf t pl := by
  unfold breaksOf breaksTo
  exact List.mem_flatten.mpr ⟨_, List.mem_map.mpr ⟨i, List.mem_range.mpr (by omega), rfl⟩, mem_brkRow hc e⟩
/-- of two that meet in a row the first is at home, the other one is not -/
theorem meets_unlike {t : Int} {pl : List (List (Int × Int))} (hv : Valid t pl) (G : GoodP t pl) {row : List (Int × Int)} (hr : row ∈ pl) {p : Int × Int} (hp : p ∈ row) : homeIn row p.1 = true ∧ homeIn row p.2 = false := by
  obtain ⟨_, _, b0, b1, ne⟩ := hv row hr p hp
  refine ⟨homeIn_iff.mpr ⟨p, hp, rfl⟩, ?_⟩
  cases h : homeIn row p.2 with
  | false => rfl
  | true =>
    obtain ⟨p', hp', e⟩ := homeIn_iff.mp h
    have h1 := G.once row hr p.2 b0 b1
    unfold cntOf at h1
    obtain ⟨z, hz⟩ := List.length_eq_one_iff.mp h1
    have m1 : p ∈ row.filter (hasB p.2) := List.mem_filter.mpr ⟨hp, hasB_iff.mpr (.inr rfl)⟩
    have m2 : p' ∈ row.filter (hasB p.2) := List.mem_filter.mpr ⟨hp', hasB_iff.mpr (.inl e)⟩
    rw [hz] at m1 m2
    have := (List.mem_singleton.mp m1).trans (List.mem_singleton.mp m2).symm
    rw [← this] at e
    exact absurd e ne
theorem meet_row {t : Int} {pl : List (List (Int × Int))} (G : GoodP t pl) {a b : Int} (a0 : 0 ≤ a) (ab : a < b) (b1 : b < t) : ∃ row ∈ pl, ∃ p ∈ row, bothB a b p = true := by
  have h := G.meet a b a0 ab b1
  unfold oftenOf at h
  by_cases e : ∃ row ∈ pl, ∃ p ∈ row, bothB a b p = true
  · exact e
  · have z : ∀ n ∈ pl.map fun row => (row.filter (bothB a b)).length, n = 0 := fun n hn => by
      obtain ⟨row, hr, rfl⟩ := List.mem_map.mp hn
      rw [List.length_eq_zero_iff, List.filter_eq_nil_iff]
      exact fun p hp hb => e ⟨row, hr, p, hp, hb⟩
    have zs : ∀ l : List Nat, (∀ n ∈ l, n = 0) → l.sum = 0 := by
      intro l
      induction l with
      | nil => intro _; rfl
      | cons x r ih =>
        intro hz
        rw [List.sum_cons, hz x List.mem_cons_self, ih fun n hn => hz n (List.mem_cons_of_mem _ hn)]
    rw [zs _ z] at h
    cases h
theorem few_breaks {t : Int} {pl : List (List (Int × Int))} (t2 : 2 ≤ t) (hv : Valid t pl) (G : GoodP t pl) : t.toNat ≤ (breaksOf t pl).length + 2 := by
  let B := breaksOf t pl
  let isB : Nat → Bool := fun c => decide ((c : Int) ∈ B.map (·.2))
  have h1 : ((List.range t.toNat).filter isB).length ≤ B.length := by
    have := sub_len (l := ((List.range t.toNat).filter isB).map fun (c : Nat) => (c : Int)) (m := B.map (·.2)) ?_ ?_
    · rw [List.length_map, List.length_map] at this
      exact this
    · refine List.Pairwise.map _ (fun (a b : Nat) (h : a ≠ b) => ?_) ((List.nodup_range (n := t.toNat)).filter _)
      show (a : Int) ≠ (b : Int)
      omega
    · intro x hx
      obtain ⟨c, hc, rfl⟩ := List.mem_map.mp hx
      exact of_decide_eq_true (List.mem_filter.mp hc).2
  have nob : ∀ c, c < t.toNat → isB c = false → ∀ i, i + 1 < pl.length → homeIn (rowN pl (i + 1)) (c : Int) = !homeIn (rowN pl i) (c : Int) := fun c hc hb i hi => by
    have hn : ¬ homeIn (rowN pl i) (c : Int) = homeIn (rowN pl (i + 1)) (c : Int) := fun e => by
      have := of_decide_eq_false hb
      exact this (List.mem_map.mpr ⟨_, mem_breaksOf hi hc e, rfl⟩)
    cases h1 : homeIn (rowN pl i) (c : Int) <;> cases h2 : homeIn (rowN pl (i + 1)) (c : Int) <;> simp_all
  have h2 : ((List.range t.toNat).filter fun c => !isB c).length ≤ 2 := by
    have := sub_len (l := ((List.range t.toNat).filter fun c => !isB c).map fun (c : Nat) => homeIn (rowN pl 0) (c : Int)) (m := [true, false]) ?_ ?_
    · rw [List.length_map] at this
      exact this
    · refine List.pairwise_map.mpr (((List.nodup_range (n := t.toNat)).filter _).imp_of_mem fun {a b} ha hb ne e => ?_)
      obtain ⟨ha1, ha2⟩ := List.mem_filter.mp ha
      obtain ⟨hb1, hb2⟩ := List.mem_filter.mp hb
      have ha1 := List.mem_range.mp ha1
      have hb1 := List.mem_range.mp hb1
      have same : ∀ i, i < pl.length → homeIn (rowN pl i) (a : Int) = homeIn (rowN pl i) (b : Int) := by
        intro i
        induction i with
        | zero => exact fun _ => e
        | succ i ih =>
          intro hi
          rw [nob a ha1 (by simpa using ha2) i hi, nob b hb1 (by simpa using hb2) i hi, ih (by omega)]
      have key : ∀ x y : Int, 0 ≤ x → x < y → y < t → (∀ i, i < pl.length → homeIn (rowN pl i) x = homeIn (rowN pl i) y) → False := fun x y x0 xy y1 hs => by
        obtain ⟨row, hr, p, hp, hb⟩ := meet_row G x0 xy y1
        obtain ⟨i, hi, er⟩ := List.mem_iff_getElem.mp hr
        have hrow : rowN pl i = row := by
          unfold rowN
          rw [List.getElem?_eq_getElem hi, er]
          rfl
        have hm := meets_unlike hv G hr hp
        have hxy := hs i hi
        rw [hrow] at hxy
        unfold bothB at hb
        rw [Bool.and_eq_true, hasB_iff, hasB_iff] at hb
        rcases hb with ⟨h1 | h1, h2 | h2⟩
        · omega
        · rw [h1, h2, hxy] at hm
          rw [hm.1] at hm
          cases hm.2
        · rw [h1, h2, hxy] at hm
          rw [hm.1] at hm
          cases hm.2
        · omega
      rcases Nat.lt_or_ge a b with h | h
      · exact key (a : Int) (b : Int) (by omega) (by omega) (by omega) same
      · exact key (b : Int) (a : Int) (by omega) (by omega) (by omega) fun i hi => (same i hi).symm
    · intro x _
      cases x <;> simp
  have h3 : (List.range t.toNat).length = ((List.range t.toNat).filter isB).length + ((List.range t.toNat).filter fun c => !isB c).length := by
    rw [List.length_eq_countP_add_countP isB, List.countP_eq_length_filter, List.countP_eq_length_filter]
    congr 2
    refine List.filter_congr fun c _ => ?_
    cases isB c <;> simp
  rw [List.length_range] at h3
  show t.toNat ≤ B.length + 2
  omega
end EM
namespace EM
open PySem PySem.Spec PyProof.Rows L2
/-! ### {k: v for .. in .. for .. in ..}, its keys tuples -/
/-- the comprehension itself: targets a, b; sources p, q -/
abbrev DC2 (k v a p b q : Expr) (sc : Scope) (ps : Pos) : Expr := .DictComp k v [⟨a, p, [], 0⟩, ⟨b, q, [], 0⟩] sc ps
section
variable {k v a p b q : Expr} {sc : Scope} {ps : Pos} {z : Value} {D : Addr} {en : Env}
theorem dc2_turn0 : compTurn (DC2 k v a p b q sc ps) 0 z (.ref D) en = (do
    standAt p.pos
    match ← pyNext z with
    | none => pure (.done .next)
    | some u => do
      letOwnedTupleGo a z u
      assign a en u
      let y ← eval q en
      standAt q.pos
      let y ← foldedSetIterable q en y
      let _ ← runOwn (.compStart (DC2 k v a p b q sc ps) 1 (← holding [y] (pyIter y)) (.ref D) en) en
      again (.compLoop (DC2 k v a p b q sc ps) 0 z (.ref D) en)) := by rfl
theorem dc2_turn1 : compTurn (DC2 k v a p b q sc ps) 1 z (.ref D) en = (do
    standAt q.pos
    match ← pyNext z with
    | none => pure (.done .next)
    | some u => do
      letOwnedTupleGo b z u
      assign b en u
      (do
        let ky ← eval k en
        let vy ← holding [ky] (eval v en)
        standAt { k.pos with endCol := v.pos.endCol, endLine := v.pos.endLine }
        holding [ky, vy] (dictSet D ky vy))
      again (.compLoop (DC2 k v a p b q sc ps) 1 z (.ref D) en)) := by rfl
variable {prog : Program} {w : World} {A : Around} {s : Shared} {R : Result → Shared → Prop}
/-- where an error inside the block would go: nowhere -/
abbrev NoX : Value → Shared → Prop := fun _ _ => False
theorem toX {α : Type} {t : Sem α} {Q : α → Shared → Prop} {E : Value → Shared → Prop} {s : Shared} (h : wpAny (model prog w) A t Q NoX s) : wpAny (model prog w) A t Q E s :=
  wpAny_mono h (fun _ _ x => x) fun _ _ x => x.elim
theorem dc2_loop0 (hq : ∀ x, foldedSetIterable q en x = pure x) (J : Nat → Shared → Prop)
    (step : ∀ n s, J n s → wpAny (model prog w) A (pyNext z) (fun r s1 => match r with
      | none => R (.ok .next) s1
      | some u => wpAny (model prog w) A (letOwnedTupleGo a z u) (fun _ s2 => wpAny (model prog w) A (assign a en u) (fun _ s3 => wpAny (model prog w) A (eval q en) (fun y s4 => wpAny (model prog w) A (pyIter y) (fun z1 s5 =>
          codeAny (model prog w) A (.compStart (DC2 k v a p b q sc ps) 1 z1 (.ref D) en) (fun o s6 => (∃ fl, o = .ok fl) ∧ ∃ m, m < n ∧ J m s6) s5) NoX s4) NoX s3) NoX s2) NoX s1) NoX s)
    {n : Nat} (h : J n s) : codeAny (model prog w) A (.compLoop (DC2 k v a p b q sc ps) 0 z (.ref D) en) R s := by
  refine codeAny_loop rfl J (fun n s hJ => ?_) n h
  show wpAny _ A ((compTurn (DC2 k v a p b q sc ps) 0 z (.ref D) en).onRaise _) _ _ s
  refine wpAny_noted ?_
  rw [dc2_turn0]
  refine wpAny_bind (wpAny_standAt (wpAny_bind (wpAny_mono (toX (step n s hJ)) (fun r s1 h1 => ?_) fun _ _ x => x)))
  cases r with
  | none => exact wpAny_pure h1
  | some u =>
    refine wpAny_bind (wpAny_mono (toX h1) (fun _ s2 h2 => wpAny_bind (wpAny_mono (toX h2) (fun _ s3 h3 => wpAny_bind (wpAny_mono (toX h3) (fun y s4 h4 => ?_) fun _ _ x => x)) fun _ _ x => x)) fun _ _ x => x)
    refine wpAny_bind (wpAny_standAt (wpAny_bind (wpAny_of_eq (hq y) (wpAny_bind (wpAny_holding (wpAny_mono (toX h4) (fun z1 s5 h5 => ?_) fun _ _ x => x))))))
    refine wpAny_bind (wpAny_runOwn ?_)
    rw [Around.mark_none]
    refine codeAny_mono h5 fun o s6 ho => ?_
    obtain ⟨⟨fl, e⟩, g⟩ := ho
    subst e
    first
      | exact wpAny_pure ⟨rfl, g⟩
      | exact wpAny_bind (wpAny_pure (wpAny_pure ⟨rfl, g⟩))
theorem dc2_loop1 (J : Nat → Shared → Prop)
    (step : ∀ n s, J n s → wpAny (model prog w) A (pyNext z) (fun r s1 => match r with
      | none => R (.ok .next) s1
      | some u => wpAny (model prog w) A (letOwnedTupleGo b z u) (fun _ s2 => wpAny (model prog w) A (assign b en u) (fun _ s3 => wpAny (model prog w) A (eval k en) (fun ky s4 => wpAny (model prog w) A (eval v en) (fun vy s5 =>
          wpAny (model prog w) A (dictSet D ky vy) (fun _ s6 => ∃ m, m < n ∧ J m s6) NoX s5) NoX s4) NoX s3) NoX s2) NoX s1) NoX s)
    {n : Nat} (h : J n s) : codeAny (model prog w) A (.compLoop (DC2 k v a p b q sc ps) 1 z (.ref D) en) R s := by
  refine codeAny_loop rfl J (fun n s hJ => ?_) n h
  show wpAny _ A ((compTurn (DC2 k v a p b q sc ps) 1 z (.ref D) en).onRaise _) _ _ s
  refine wpAny_noted ?_
  rw [dc2_turn1]
  refine wpAny_bind (wpAny_standAt (wpAny_bind (wpAny_mono (toX (step n s hJ)) (fun r s1 h1 => ?_) fun _ _ x => x)))
  cases r with
  | none => exact wpAny_pure h1
  | some u =>
    refine wpAny_bind (wpAny_mono (toX h1) (fun _ s2 h2 => wpAny_bind (wpAny_mono (toX h2) (fun _ s3 h3 => wpAny_bind (wpAny_bind (wpAny_mono (toX h3) (fun ky s4 h4 => ?_) fun _ _ x => x))) fun _ _ x => x)) fun _ _ x => x)
    refine wpAny_bind (wpAny_holding (wpAny_mono (toX h4) (fun vy s5 h5 => ?_) fun _ _ x => x))
    exact wpAny_bind (wpAny_standAt (wpAny_holding (wpAny_mono (toX h5) (fun _ s6 h6 => wpAny_pure ⟨rfl, h6⟩) fun _ _ x => x)))
theorem dc2_start (h0 : codeAny (model prog w) A (.compLoop (DC2 k v a p b q sc ps) 1 z (.ref D) en) R s)
    (h : wpAny (model prog w) A (pyIter z) (fun z' s' => codeAny (model prog w) A (.compLoop (DC2 k v a p b q sc ps) 1 z' (.ref D) en) R s') (notedBy (model prog w) A en fun x s' => R (.error x) s') s) :
    codeAny (model prog w) A (.compStart (DC2 k v a p b q sc ps) 1 z (.ref D) en) R s := by
  refine codeAny_of_tree ?_
  show wpAny _ A ((compStart (DC2 k v a p b q sc ps) 1 z (.ref D) en).onRaise _) _ _ s
  refine wpAny_notedAt ?_
  unfold compStart
  show wpAny _ A (ask >>= _) _ _ s
  refine wpAny_bind (wpAny_askSetting (wpAny_ite ?_))
  split
  · first
      | exact wpAny_pure ⟨rfl, h0⟩
      | exact wpAny_bind (wpAny_pure (wpAny_pure ⟨rfl, h0⟩))
  · first
      | exact wpAny_bind (wpAny_rule (wpAny_bind (wpAny_standAt (wpAny_bind (wpAny_mono h (fun z' s' hz => wpAny_pure ⟨rfl, hz⟩) fun _ _ x => x)))))
      | (refine wpAny_bind (wpAny_rule ?_); show wpAny _ A (standAt q.pos >>= _) _ _ s; exact wpAny_bind (wpAny_standAt (wpAny_bind (wpAny_mono h (fun z' s' hz => wpAny_pure ⟨rfl, hz⟩) fun _ _ x => x))))
end
end EM
namespace EM
open PySem PySem.Spec PyProof.Rows L2
/-! one turn of a loop inside a comprehension's block -/
/-- the loop stands ahead of a turn -/
def AtTurn (Y : Cx) (pl : List (Addr × Obj)) (τ : L2.St) (fp : List Addr) (tn : Nat → Heap → Prop) (W : Nat → Nat → Hp → Prop) (n : Nat) (s : Shared) : Prop :=
  ∃ i G, Inv Y pl τ G s ∧ tn i s.heap ∧ (∀ b ∈ fp, G b = none) ∧ W i n G
/-- what a clause's loop asks: it stops, or its target gets an item and the rest brings the next turn -/
def Clause (J : It) (g : TG) (τ : L2.St) (vs : List Nat) (W : Nat → Nat → Hp → Prop) (stop : Hp → Prop) (body : (Hp → Prop) → L2.St → Hp → Prop) : Prop :=
  ∀ i m G, W i m G → (J.stop i G ∧ stop G) ∨ (J.go i G ∧ ∃ Nx : Hp → Prop, (∀ G', Nx G' → ∃ m', m' < m ∧ W (i + 1) m' G') ∧ ∀ x G', J.yld i G x G' → g x τ G' fun ρ F => wipe ρ vs = τ ∧ body Nx ρ F)
/-- slots that know at least what τ knows -/
def Knows (τ ρ : L2.St) : Prop := τ.length = ρ.length ∧ ∀ (j : Nat) v, τ[j]? = some (some v) → ρ[j]? = some (some v)
theorem knows_wipe {τ ρ : L2.St} {vs : List Nat} (h : wipe ρ vs = τ) : Knows τ ρ := by
  subst h
  exact ⟨wipe_length _ _, fun j v e => (wipe_some e).1⟩
section
variable {Y : Cx} {pl : List (Addr × Obj)} {tg : Expr} {g : TG} {J : It} {fp : List Addr} {it : Addr} {tn : Nat → Heap → Prop} {τ : L2.St} {vs : List Nat} {W : Nat → Nat → Hp → Prop} {stop : Hp → Prop} {body : (Hp → Prop) → L2.St → Hp → Prop}
theorem one_turn (hc : Y.calm = true) (hx : Y.xe = NoX) (T : Turn Y.prog Y.w Y.K tg J fp it tn) (pg : PG Y tg g) (hst : ∀ G : Hp, (∀ b ∈ fp, G b = none) → ∀ b ∈ fp, FpOk Y pl G b) (ask : Clause J g τ vs W stop body) {n : Nat} {s : Shared} (h : AtTurn Y pl τ fp tn W n s) :
    wpAny (model Y.prog Y.w) Y.A (pyNext (.ref it)) (fun r s1 => match r with
      | none => ∃ G, Inv Y pl τ G s1 ∧ stop G
      | some u => wpAny (model Y.prog Y.w) Y.A (letOwnedTupleGo tg (.ref it) u) (fun _ s2 => wpAny (model Y.prog Y.w) Y.A (assign tg Y.env u) (fun _ s3 =>
          ∃ (Nx : Hp → Prop) (pp : List (Addr × Obj)) (ρ : L2.St) (G : Hp), Inv Y (pl ++ pp) ρ G s3 ∧ wipe ρ vs = τ ∧ body Nx ρ G ∧
            ∀ ρ' G' s', Inv Y (pl ++ pp) ρ' G' s' → Knows τ ρ' → Nx G' → ∃ m, m < n ∧ AtTurn Y pl τ fp tn W m s') NoX s2) NoX s1) NoX s := by
  obtain ⟨i, G, I, st, free, w⟩ := h
  rcases ask i n G w with ⟨e, z⟩ | ⟨e, Nx, back, go⟩
  · refine thnF (T.done Y rfl rfl rfl hc i pl s τ G NoX I (hst G free) st e) fun r s1 ⟨hr, I1⟩ => ?_
    subst hr
    exact ⟨G, I1, z⟩
  · refine thnF (T.item Y rfl rfl rfl hc i pl s τ G NoX I (hst G free) st e) fun r s1 ⟨u, hr, h1⟩ => ?_
    subst hr
    refine thnF h1 fun _ s2 ⟨x, G2, I2, r2, y2, st2, free2⟩ => ?_
    have pg' := pg.run _ s2 τ G2 x u _ (I2.pinned (hst G2 free2) (T.obj _ _ st2)) r2 (go x G2 y2)
    rw [hx] at pg'
    refine thnF pg' fun _ s3 ⟨ρ, G3, I3, e3, b3⟩ => ?_
    refine ⟨Nx, pinsAt fp s2.heap, ρ, G3, I3, e3, b3, fun ρ' G' s' I' kn nx => ?_⟩
    obtain ⟨m, lt, w'⟩ := back G' nx
    have same : ∀ b ∈ fp, ∃ o, s2.heap.get? b = some o ∧ s'.heap.get? b = some o ∧ G' b = none := fun b hb => by
      obtain ⟨o, eo, _⟩ := T.obj _ _ st2 b hb
      have pin := I'.pin (b, o) (List.mem_append_right _ (List.mem_append_right _ (mem_pinsAt hb eo)))
      exact ⟨o, eo, pin.1, pin.2.1⟩
    refine ⟨m, lt, i + 1, G', I'.unpinned.weak kn.1 kn.2, T.keep _ _ _ st2 fun b hb o eo => ?_, fun b hb => ?_, w'⟩
    · obtain ⟨o', e1, e2, _⟩ := same b hb
      rw [eo] at e1
      cases e1
      exact e2
    · obtain ⟨_, _, _, e3⟩ := same b hb
      exact e3
end
/-- d[y] = z by a comprehension, y a tuple -/
theorem dt_set {X : Cx} {pins : List (Addr × Obj)} {σ : L2.St} {H : Hp} {s : Shared} {E : Value → Shared → Prop} {D b : Addr} {kvs : List (List Key × V)} {k : List Key} {v : V} {r : Value} {Q : Unit → Shared → Prop} (hu : X.A.units < cLine) (I : Inv X pins σ H s) (hD : H D = some (.dT kvs)) (hb : H b = some (.tup (k.map kV)))
    (hz : kvs.length < sizeLine) (rv : RelV v r) (h : ∀ s', Inv X pins σ (upd H D (.dT (putK kvs k v))) s' → Q () s') : wpAny (model X.prog X.w) X.A (dictSet D (.ref b) r) Q E s := by
  obtain ⟨z, hd, xs, rel, dd⟩ := dt_of I.hok hD
  have len : (putK kvs k v).length ≤ sizeLine := by
    have := length_putK kvs k v
    omega
  refine wpAny_dictSet_heap (hsz := by rw [← Paired.length rel]; exact z) (show (tupleKind (mixKind X.prog X.w)).room X.A from hu) (key_of I.hok hb) dd fun h' dd' hs => h _ ?_
  obtain ⟨o, es, ep, ho, g2, g3, g4, _, g5⟩ := dd'
  refine d_write I (by rw [hD]; exact True.intro) hs ⟨o, ho⟩ ⟨len, hd, _, (rel.put k hb rv).keeps fun c ys ec => ?_, o, es, ep, ho, g2, g3, g4, g5⟩
  rw [upd_ne (ne_of ec hD (fun q => nomatch q))]
  exact ec
end EM
namespace EM
open PySem PySem.Spec PyProof.Rows L2
/-! ### the whole comprehension, given to a name -/
/-- D the new dict; W, W1 what holds ahead of a turn of the first clause, of the second -/
def tDc2 (wi : TI) (g : TG) (wi1 : TI) (g1 : TG) (tk tv : TE) (vs vs1 : List Nat) : TE := fun σ H Q => wi σ H fun J H1 => ∀ D, H1 D = none → ∃ W : Nat → Nat → Hp → Prop, (∃ m, W 0 m (upd H1 D (.dT []))) ∧
  Clause J g (wipe σ vs) vs W (fun G => Q (.ref D) G) fun Nx ρ G => wi1 ρ G fun J1 G1 => ∃ W1 : Nat → Nat → Hp → Prop, (∃ m, W1 0 m G1) ∧ Clause J1 g1 (wipe ρ vs1) vs1 W1 Nx fun Nx1 ρ1 F => tk ρ1 F fun y F1 => tv ρ1 F1 fun z F2 =>
    ∃ b kvs k, y = .ref b ∧ F2 D = some (.dT kvs) ∧ F2 b = some (.tup (k.map kV)) ∧ kvs.length < sizeLine ∧ Nx1 (upd F2 D (.dT (putK kvs k z)))
section
variable {X : Cx} {kx vx a p b q : Expr} {sc : Scope} {ps : Pos} {own : List (Str × Nat)} {vs1 : List Nat} {wi wi1 : TI} {g g1 : TG} {tk tv : TE}
/-- a judgement inside the block, whatever the block's state -/
abbrev InBlk (X : Cx) (sc : Scope) (J : Cx → Prop) : Prop := ∀ (s : Shared) (H : Hp) (C : Addr) (cl : List (Str × Addr)) (fp : List Addr), J (X.blk s H sc (compEnvC sc cl C X.env) fp)
theorem ps_setDc2 {i : Nat} {y : Str} {py sp : Pos} (hc : X.calm = true) (hN : X.N.Nodup) (hy : X.N[i]? = some y) (hl : X.env.scope.names.lookup y = some .local) (sw : swapsWith (DC2 kx vx a p b q sc ps) (some (.Name y py)) sp.line X.env = pure true)
    (hu : X.A.units < cLine) (hi : PI X a p wi) (ok : BlkOk X.N X.env.scope sc own) (sub : ∀ j ∈ vs1, j ∈ own.map (·.2)) (hg : InBlk X sc fun Y => PG Y a g) (hi1 : InBlk X sc fun Y => PI Y b q wi1) (hg1 : InBlk X sc fun Y => PG Y b g1) (hk : InBlk X sc fun Y => PE Y kx tk) (hv : InBlk X sc fun Y => PE Y vx tv)
    (f0 : ∀ x, foldedSetIterable p X.env x = pure x := by intro _; rfl) (f1 : ∀ en x, foldedSetIterable q en x = pure x := by intro _ _; rfl) :
    PS X (.Assign [.Name y py] (DC2 kx vx a p b q sc ps) sp) (tAsg (tDc2 wi g wi1 g1 tk tv (own.map (·.2)) vs1) (gName i)) := by
  refine ⟨fun pins s σ H D I h => ?_⟩
  have h : tDc2 wi g wi1 g1 tk tv (own.map (·.2)) vs1 σ H (fun x H1 => gName i x σ H1 D.nx) := h
  rw [exec_Assign_Name_used _ _ _ _ sw]
  refine wpAny_bind (wpAny_standAt (wpAny_bind ?_))
  show wpAny _ X.A (do let _ ← comprehension (DC2 kx vx a p b q sc ps) sc X.env (firstIterPos [⟨a, p, [], 0⟩, ⟨b, q, [], 0⟩] ps) newDict false (eval p X.env) (some (assign (.Name y py) X.env))) _ _ s
  have caps : ∀ z ∈ sc.names, z.2 = .free → ∃ c, X.env.cells.lookup z.1 = some c := fun z hz e => (ok.free z hz e).elim (fun k => I.ok.has _ (.inl k)) fun k => I.ok.has _ (.inr k)
  refine wpAny_bind (wpAny_mono (Q := fun _ s' => SP X pins D .next s') (E := X.xe) ?_ (fun _ s' hq => wpAny_pure (wpAny_pure hq)) fun _ _ z => z)
  refine wpAny_comprehension_free (use := some (assign (.Name y py) X.env)) rfl f0 (closure_ok caps) ok.kind (fun z hz e => (ok.uniq z hz).trans (congrArg some e)) (thn (hi.run pins s σ H _ I h) fun xv s1 hx => thn hx fun itv s2 got => ?_)
  obtain ⟨it, fp, tn, J, H2, rfl, I2, T, st2, free2, ask⟩ := got
  refine wpAny_newObj_type (newEnv_comp ?_)
  -- the new dict
  have fresh : H2 s2.heap.objs.size = none := I2.hok.fresh (Nat.le_refl _)
  obtain ⟨W, ⟨m0, w0⟩, turns⟩ := ask _ fresh
  revert turns w0
  generalize eD : s2.heap.objs.size = R
  intro turns w0
  rw [eD] at fresh
  have I3 : Inv X pins σ (upd H2 R (.dT [])) { s2 with heap := s2.heap.push { cls := .type "dict", data := .dict #[] } } := by
    refine I2.laid (t' := s2.toks) (fun _ _ e => Heap.get?_push_of_some _ e) (Nat.le_of_eq eD) ?_
    subst eD
    exact dt_empty s2.heap I2.big
  have there : ∀ c ∈ fp, c < s2.heap.objs.size := fun c hc' => let ⟨_, e, _⟩ := T.obj _ _ st2 c hc'; Heap.lt_size e
  revert I3 w0
  generalize eH : upd H2 R (.dT []) = H3
  generalize es : ({ s2 with heap := s2.heap.push { cls := .type "dict", data := .dict #[] } } : Shared) = s3
  intro w0 I3
  have eh : s3.heap = s2.heap.push { cls := .type "dict", data := .dict #[] } := by rw [← es]
  have free3 : ∀ c ∈ fp, FpOk X pins H3 c ∧ c < s3.heap.objs.size := fun c hc' => by
    have lt := there c hc'
    refine ⟨⟨?_, (free2 c hc').2⟩, ?_⟩
    · rw [← eH, upd_ne (fun z => absurd lt (by rw [z, eD]; exact Nat.lt_irrefl _))]
      exact (free2 c hc').1
    · rw [eh, Heap.size_push]
      exact Nat.lt_succ_of_lt lt
  have I4 := block_start I3 ok hN free3
  have st4 : tn 0 (pushCells (s3.heap.push { cls := .type "dict", data := .dict #[] }) sc.names) := T.keep _ _ _ st2 fun c _ o e => pushCells_keeps _ _ _ _ (Heap.get?_push_of_some _ (by rw [eh]; exact Heap.get?_push_of_some _ e))
  show codeAny _ _ (.compStart (DC2 kx vx a p b q sc ps) 0 (.ref it) (.ref R) (compEnvC sc (cellsFrom (s3.heap.objs.size + 1) sc.names (cloFrom X.env.cells sc.names [])) s3.heap.objs.size X.env))
    (compPost (model X.prog X.w) X.A X.xe (some (assign (.Name y py) X.env)) (fun _ s' => SP X pins D .next s') (.ref R) s3.heap.objs.size) { s3 with heap := pushCells (s3.heap.push { cls := .type "dict", data := .dict #[] }) sc.names }
  revert I4
  generalize ec : cellsFrom (s3.heap.objs.size + 1) sc.names (cloFrom X.env.cells sc.names []) = cl
  intro I4
  have pg := hg s3 H3 s3.heap.objs.size cl fp
  have pi1 := hi1 s3 H3 s3.heap.objs.size cl fp
  have pg1 := hg1 s3 H3 s3.heap.objs.size cl fp
  have pk := hk s3 H3 s3.heap.objs.size cl fp
  have pv := hv s3 H3 s3.heap.objs.size cl fp
  generalize eY : X.blk s3 H3 sc (compEnvC sc cl s3.heap.objs.size X.env) fp = Y at I4 pg pi1 pg1 pk pv
  have yA : Y.A = X.A := by rw [← eY]
  have yP : Y.prog = X.prog := by rw [← eY]
  have yW : Y.w = X.w := by rw [← eY]
  have yK : Y.K = X.K := by rw [← eY]
  have yC : Y.calm = true := by rw [← eY]; exact hc
  have yX : Y.xe = NoX := by rw [← eY]
  have yE : compEnvC sc cl s3.heap.objs.size X.env = Y.env := by rw [← eY]
  have stay : ∀ G : Hp, (∀ c ∈ fp, G c = none) → ∀ c ∈ fp, FpOk Y [] G c := fun G none c hc' => by
    have k := I4.ok.exf c (by rw [← eY]; exact hc')
    have k2 := I4.ok.exfs c (by rw [← eY]; exact hc')
    refine ⟨none c hc', k.1, k2, .inl (by rw [← eY]; exact hc'), fun x d e => k.2 x d e, fun z hz => ?_⟩
    have : Y.pn = [] := by rw [← eY]
    rw [this] at hz
    exact absurd hz (by simp)
  have T' : Turn Y.prog Y.w Y.K a J fp it tn := by rw [yP, yW, yK]; exact T
  rw [yE]
  have all : codeAny (model Y.prog Y.w) Y.A (.compLoop (DC2 kx vx a p b q sc ps) 0 (.ref it) (.ref R) Y.env) (compPost (model X.prog X.w) X.A X.xe (some (assign (.Name y py) X.env)) (fun _ s' => SP X pins D .next s') (.ref R) s3.heap.objs.size) { s3 with heap := pushCells (s3.heap.push { cls := .type "dict", data := .dict #[] }) sc.names } := by
    refine dc2_loop0 (f1 Y.env) (AtTurn Y [] (wipe σ (own.map (·.2))) fp tn W) (fun n s5 h5 => ?_) ⟨0, H3, I4, st4, fun c hc' => (free3 c hc').1.1, w0⟩
    refine thnF (one_turn yC yX T' pg stay turns h5) fun r s6 h6 => ?_
    cases r with
    | none =>
      obtain ⟨G, I6, done⟩ := h6
      have I7 : Inv X pins σ G s6 := by
        subst eY
        exact I3.call' (ch := fp) I6.os I6.base I6.hok I6.bare fun c hc' => let f := (free3 c hc').1; ⟨f.2.2.2.1, f.2.1, f.2.2.2.2.1, f.2.2.2.2.2⟩
      have gone : G s3.heap.objs.size = none := by
        subst eY
        exact I6.free
      have ns : ∃ m, s6.heap.Ns s3.heap.objs.size m := by
        obtain ⟨m, hn, _⟩ := I6.loc
        subst eY
        exact ⟨m, hn⟩
      obtain ⟨m, hn⟩ := ns
      obtain ⟨k0, k1, k2, k3, k4, k5⟩ : FpOk X pins G s3.heap.objs.size := I3.fpOk (Nat.le_refl _) gone
      show wpAny _ _ (assign (.Name y py) X.env (.ref R)) _ _ _
      rw [yA, yP, yW] at *
      refine wpAny_assign_Name (store_ok2 (v := V.ref R) I7 hN hy (.inl hl) rfl (fun s8 I8 ⟨c, one, hc'⟩ => ?_) (.inr hl))
      have ne : s3.heap.objs.size ≠ c := hc'.elim (fun z => by rw [z]; exact k1) fun z e => k4 y c z e.symm
      exact ⟨m, hn.sameBut one ne, fun h9 one9 => ⟨_, G, I8.turned (t' := s8.toks) (fun c' o hb e => (one9.2 c' hb).trans e) k0 k1 k3 k4 k5, done⟩⟩
    | some u =>
      refine thnF h6 fun _ s7 h7 => thnF h7 fun _ s8 h8 => ?_
      obtain ⟨Nx, pp, ρ, G, I8, e8, b8, back⟩ := h8
      have pi1' := pi1.run _ s8 ρ G _ I8 b8
      rw [yX] at pi1'
      refine thnF pi1' fun xv s9 h9 => thnF h9 fun itv s10 got1 => ?_
      obtain ⟨it1, fp1, tn1, J1, G1, e1, I10, T1, st10, free10, W1, ⟨m1, w1⟩, turns1⟩ := got1
      subst e1
      have stay1 : ∀ F : Hp, (∀ c ∈ fp1, F c = none) → ∀ c ∈ fp1, FpOk Y ([] ++ pp) F c := fun F none c hc' => ⟨none c hc', (free10 c hc').2⟩
      have in1 : codeAny (model Y.prog Y.w) Y.A (.compLoop (DC2 kx vx a p b q sc ps) 1 (.ref it1) (.ref R) Y.env) (fun o s' => (∃ fl, o = .ok fl) ∧ ∃ m, m < n ∧ AtTurn Y [] (wipe σ (own.map (·.2))) fp tn W m s') s10 := by
        refine dc2_loop1 (AtTurn Y ([] ++ pp) (wipe ρ vs1) fp1 tn1 W1) (fun k s11 h11 => ?_) ⟨0, G1, I10.weak (wipe_length _ _) (fun j v e => (wipe_some e).1), st10, fun c hc' => (free10 c hc').1, w1⟩
        refine thnF (one_turn yC yX T1 pg1 stay1 turns1 h11) fun r s12 h12 => ?_
        cases r with
        | none =>
          obtain ⟨F, I12, nx⟩ := h12
          refine ⟨⟨_, rfl⟩, back _ F s12 I12 ⟨?_, fun j v e => ?_⟩ nx⟩
          · exact ((congrArg List.length e8).symm.trans (wipe_length ρ (own.map (·.2)))).trans (wipe_length ρ vs1).symm
          · rw [← e8] at e
            obtain ⟨e', no⟩ := wipe_some e
            rw [wipe_out fun z => no (sub j z)]
            exact e'
        | some u1 =>
          refine thnF h12 fun _ s13 h13 => thnF h13 fun _ s14 h14 => ?_
          obtain ⟨Nx1, pp1, ρ1, F, I14, e14, b14, back1⟩ := h14
          have pk' := pk.run _ s14 ρ1 F _ I14 b14
          rw [yX] at pk'
          refine thnF pk' fun kv s15 ⟨yk, F1, I15, r15, q15⟩ => ?_
          have pv' := pv.run _ s15 ρ1 F1 _ I15 q15
          rw [yX] at pv'
          refine thnF pv' fun vv s16 ⟨yv, F2, I16, r16, bk, kvs, k', ey, hD, hb, sz, nx⟩ => ?_
          subst ey
          cases (show kv = Value.ref bk from r15)
          exact dt_set (by rw [yA]; exact hu) I16 hD hb sz r16 fun s17 I17 => back1 ρ1 _ s17 I17 (knows_wipe e14) nx
      exact dc2_start in1 (T1.self Y.A 0 _ _ _ st10 in1)
  rw [yA, yP, yW] at all
  exact codeAny_compStart_dict all (T.self X.A 0 _ _ _ st4 all)
end
end EM
namespace EM
open PySem PySem.Spec PyProof.Rows L2
/-! ### for (a, b), c in d.items(): d a dict whose keys are tuples -/
/-- the pairs of the locked dict at d: its key's tuple as it stands, its value -/
def Itit (d : Addr) (o : Obj) (kvs : List (List Key × V)) : It :=
  ⟨fun i G => G d = some (.frz o (.dT kvs)) ∧ i < kvs.length, fun i G x G' => ∃ T b k v, kvs[i]? = some (k, v) ∧ G b = some (.tup (k.map kV)) ∧ x = .ref T ∧ G T = none ∧ G' = upd G T (.tup [.ref b, v]), fun i G => G d = some (.frz o (.dT kvs)) ∧ kvs.length ≤ i⟩
theorem locked_raw {X : Cx} {pins : List (Addr × Obj)} {σ : L2.St} {G : Hp} {s : Shared} {d : Addr} {o : Obj} {kvs : List (List Key × V)} (I : Inv X pins σ G s) (h : G d = some (.frz o (.dT kvs))) :
    (d == sysModules) = false ∧ s.heap.get? d = some o ∧ o.ExactDict ∧ ∃ (es : Array DictEntry) (ep : Nat), o.data = .dict es ep ∧ es.size = kvs.length ∧
      ∀ (i : Nat) (k : List Key) (v : V), kvs[i]? = some (k, v) → ∃ (hi : i < es.size) (b : Addr), es[i].key = .ref b ∧ G b = some (.tup (k.map kV)) ∧ RelV v es[i].val := by
  obtain ⟨here, _, no, xs, pr, o', es, ep, ho, ex, data, ents, _⟩ := I.hok d _ h
  cases here.symm.trans ho
  have sz : es.size = kvs.length := (size_of_entries ents).trans (Paired.length pr).symm
  refine ⟨no, here, ex, es, ep, data, sz, fun i k v e => ?_⟩
  obtain ⟨y, hy, e1, e2, rv⟩ := L2.paired_get pr e
  have at_i := entry_at ents i
  rw [hy] at at_i
  have hi : i < es.size := by
    rcases Nat.lt_or_ge i es.size with z | z
    · exact z
    · rw [Array.getElem?_eq_none z] at at_i
      cases at_i
  rw [Array.getElem?_eq_getElem hi] at at_i
  have at_i := Option.some.inj at_i
  exact ⟨hi, y.2.1, by rw [at_i]; rfl, e2, by rw [at_i]; exact rv⟩
section
variable {P : Program} {w : World} {K : PySem.W.Frag}
theorem turn_itemsT {d : Addr} {o : Obj} {es : Array DictEntry} {ep : Nat} {kvs : List (List Key × V)} {elts : List Expr} {kk : Nat} {tpos : Pos} (it : Addr) (hod : o.data = .dict es ep) :
    Turn P w K (.Tuple elts kk tpos) (Itit d o kvs) [it] it (fun i h => ∃ ok ov, IsItemIter h it d i kvs.length ep ok ov) where
  mem := List.mem_singleton.mpr rfl
  obj := fun i h st b hb => by
    obtain ⟨_, _, e⟩ := st
    rw [List.mem_singleton.mp hb]
    exact ⟨_, e, fun _ z => nomatch z⟩
  keep := fun i h h' ⟨ok, ov, e⟩ k => ⟨ok, ov, k it (List.mem_singleton.mpr rfl) _ e⟩
  item := by
    intro Y hP hW hK calm i pins s σ G E I free st go
    cases hP
    cases hW
    cases hK
    obtain ⟨ok, ov, isit⟩ := st
    obtain ⟨lock, lt⟩ := go
    obtain ⟨no, here, ex, es', ep', data, sz, ent⟩ := locked_raw I lock
    obtain ⟨e1, e2⟩ := dict_ep hod data
    subst e1 e2
    obtain ⟨hi, b, hkey, hb, rv⟩ := ent i kvs[i].1 kvs[i].2 (List.getElem?_eq_getElem lt)
    rw [← sz] at isit
    have below : it < s.heap.objs.size := Heap.lt_size isit
    refine DT.nextI isit ⟨o, here, ex, data⟩ hi fun h' out tup size rest => ?_
    refine ⟨_, rfl, wpAny_letOwnedTupleGo_items (s := { s with heap := h' }) out fun h2 isit2 one => ?_⟩
    have tup2 := (one.2 _ (Nat.ne_of_gt below)).trans tup
    have pair : ObjOk Y.prog Y.w (upd G s.heap.objs.size (.tup [.ref b, kvs[i].2])) h2 s.heap.objs.size (.tup [.ref b, kvs[i].2]) :=
      ⟨by show 2 ≤ sizeLine; decide, [_, _], .cons (show RelV (V.ref b) _ from hkey) (.cons rv .nil), ⟨_, tup2, rfl, _, rfl⟩⟩
    have I2 : Inv Y pins σ (upd G s.heap.objs.size (.tup [.ref b, kvs[i].2])) { s with heap := h2 } :=
      I.turnedNew (t' := s.toks) (ch := [it]) (fun c oc hc ec => (one.2 c fun z => hc (by rw [z]; exact List.mem_singleton.mpr rfl)).trans (rest c oc (fun z => hc (by rw [z]; exact List.mem_singleton.mpr rfl)) ec)) free (Nat.le_refl _) pair
    refine ⟨.ref s.heap.objs.size, _, I2, rfl, ⟨_, b, kvs[i].1, kvs[i].2, List.getElem?_eq_getElem lt, hb, rfl, I.hok.fresh (Nat.le_refl _), rfl⟩, ⟨es'[i].key, es'[i].val, ?_⟩, fun c hc => ?_⟩
    · rw [← sz]
      exact isit2
    · rw [List.mem_singleton.mp hc, upd_ne (Nat.ne_of_lt below)]
      exact (free it (List.mem_singleton.mpr rfl)).1
  done := by
    intro Y hP hW hK calm i pins s σ G E I free st stop
    cases hP
    cases hW
    cases hK
    obtain ⟨ok, ov, isit⟩ := st
    obtain ⟨lock, ge⟩ := stop
    obtain ⟨no, here, ex, es', ep', data, sz, ent⟩ := locked_raw I lock
    obtain ⟨e1, e2⟩ := dict_ep hod data
    subst e1 e2
    obtain ⟨f0, f1, f2, f3, f4, f5⟩ := free it (List.mem_singleton.mpr rfl)
    rw [← sz] at isit
    exact DT.endI (I.ok.hd calm) isit ⟨o, here, ex, data⟩ (by omega) fun h' but => ⟨rfl, I.turned (t' := s.toks) (fun c oc hc ec => but c oc hc ec) f0 f1 f3 f4 f5⟩
  self := fun A i s Q E ⟨_, _, e⟩ q => PySem.W.kcp_self e q
end
def iItemsT (td : TE) : TI := fun σ H R => td σ H fun x G => ∃ d o kvs, x = .ref d ∧ G d = some (.frz o (.dT kvs)) ∧ R (Itit d o kvs) G
theorem pi_itemsT {X : Cx} {e : Expr} {td : TE} {apos cpos : Pos} {elts : List Expr} {kk : Nat} {tpos : Pos} (he : PE X e td) (hbase : attributeBase e "items" X.env (eval e X.env) = eval e X.env := by rfl) (hline : (apos.endLine == cpos.line) = true := by rfl) :
    PI X (.Tuple elts kk tpos) (.Call (.Attribute e "items" apos) [] [] cpos) (iItemsT td) := by
  refine ⟨fun pins s σ H R I h => ?_⟩
  refine wpAny_Call_method (T := "dict") (id := "dict.items") hbase rfl hline F.plainAttrs_dict F.slot_dict_items F.type_dict_items (thn (he.run pins s σ H _ I h) fun u s1 ⟨x, G, I1, rx, d, o, kvs, ex, lock, q⟩ => ?_)
  subst ex
  cases (show u = Value.ref d from rx)
  obtain ⟨no, here, exact', es, ep, data, sz, ent⟩ := locked_raw I1 lock
  refine ⟨⟨o, here, exact'.1⟩, fun c z => by cases z; exact ⟨o, here, exact'.2.1⟩, ?_⟩
  show wpAny _ _ (callWith cpos (.builtin "dict.items") [.ref d] [] []) _ X.xe s1
  refine Calls.callWith_builtin rfl (PySem.evalArgs_none (DT.callItems no ⟨o, here, exact', data⟩ ?_))
  have I2 : Inv X pins σ G { s1 with heap := s1.heap.push { cls := .type "dict_items", data := .fields #[.ref d] } } := I1.kept (t' := s1.toks) fun c oc z => Heap.get?_push_of_some _ z
  refine DT.iterI (es := es) (ep := ep) ⟨_, Heap.get?_push_size _ rfl, rfl, rfl⟩ (DT.Raw.push ⟨o, here, exact', data⟩ _) (pi_one (tk := s1.toks) I2 _ (turn_itemsT _ data) ⟨.none, .none, ?_⟩ q)
  rw [← sz]
  exact Heap.get?_push_size _ rfl
end EM
namespace EM
open PySem PySem.Spec PyProof.Rows L2
/-! ### list(d.values()): d a dict whose keys are tuples -/
def tListValsT (te : TE) : TE := fun σ H Q => te σ H fun x G => ∃ (d : Addr) (kvs : List (List Key × V)), x = .ref d ∧ G d = some (.dT kvs) ∧ ∀ p, G p = none → Q (.ref p) (upd G p (.lst (kvs.map (·.2))))
theorem vals_of {ws : List V} {us : List Value} (hl : ws.length = us.length) (h : ∀ (i : Nat) (h1 : i < ws.length) (h2 : i < us.length), RelV ws[i] us[i]) : Vals ws us := by
  induction ws generalizing us with
  | nil =>
    cases us with
    | nil => exact .nil
    | cons _ _ => cases hl
  | cons x xs ih =>
    cases us with
    | nil => cases hl
    | cons u us => exact .cons (h 0 (by simp) (by simp)) (ih (Nat.succ.inj hl) fun i h1 h2 => h (i + 1) (by simpa using h1) (by simpa using h2))
section
variable {X : Cx} {e : Expr} {te : TE} {p apos cpos pos : Pos}
theorem pe_listValsT (calm : X.calm = true) (he : PE X e te) (gl : Gl X "list") (free : X.mg "list" = none) (hv : bootBuiltins "list" = some (.type "list")) (hbase : attributeBase e "values" X.env (eval e X.env) = eval e X.env := by rfl) (hline : (apos.endLine == cpos.line) = true := by rfl)
    (hs : starEach [.Call (.Attribute e "values" apos) [] [] cpos] X.env = (false, eval (.Call (.Attribute e "values" apos) [] [] cpos) X.env) :: starEach [] X.env := by rfl) :
    PE X (.Call (.Name "list" p) [.Call (.Attribute e "values" apos) [] [] cpos] [] pos) (tListValsT te) := by
  refine ⟨fun pins s σ H Q I hq => ?_⟩
  refine wpAny_Call_Name_kw (ld_blt I gl free hv (PyProof.Rows.callWith_type1 ?_ hs rfl))
  rw [hs]
  show wpAny _ _ (spliced ((false, eval (.Call (.Attribute e "values" apos) [] [] cpos) X.env) :: backTo pos (starEach [] X.env))) _ _ s
  refine Calls.spliced_cons (wpAny_Call_method (T := "dict") (id := "dict.values") hbase rfl hline F.plainAttrs_dict F.slot_dict_values F.type_dict_values (thn (he.run pins s σ H _ I hq) fun u s1 ⟨x, G, I1, rx, d, kvs, ex, hd, q⟩ => ?_))
  subst ex
  cases (show u = Value.ref d from rx)
  obtain ⟨z, sys, xs, kt, dof⟩ := dt_of I1.hok hd
  obtain ⟨es, ep, raw, size, items⟩ := Heap.DictOfH.raw dof
  have raw0 := raw
  obtain ⟨ob, hob, hex, hdata⟩ := raw0
  refine ⟨⟨ob, hob, hex.1⟩, fun b eb => by cases eb; exact ⟨ob, hob, hex.2.1⟩, ?_⟩
  show wpAny _ _ (callWith cpos (.builtin "dict.values") [.ref d] [] []) _ X.xe s1
  refine Calls.callWith_builtin rfl (PySem.evalArgs_none (call_meetsIn F.slot_dict_values ⟨ob, hob, hex.1⟩ F.entry_dict_values (F.args_dict_values_1 _) (meets_dict_values_raw d sys) ⟨⟨es, ep, raw⟩, ?_⟩))
  have I2 : Inv X pins σ G { s1 with heap := s1.heap.push { cls := .type "dict_values", data := .fields #[.ref d] } } := I1.kept (t' := s1.toks) fun b o eb => Heap.get?_push_of_some _ eb
  have raw1 : (s1.heap.push { cls := .type "dict_values", data := .fields #[.ref d] }).DictRaw d es ep := raw.at fun u eu => Heap.get?_push_of_some _ eu
  have len : es.size = kvs.length := by rw [size, kt_len kt]
  refine Calls.spliced_nil ?_
  refine PySem.W.kdl_call (KdlSrc.rawValues (es := es) (ep := ep)) (I1.ok.hd calm) ⟨⟨_, Heap.get?_push_size _ rfl, rfl, rfl⟩, raw1⟩ (by omega) fun h' tk acc c keep hS got => ?_
  have asz : acc.size = kvs.length := got.1.trans len
  generalize eL : ({ s1 with heap := s1.heap.push { cls := .type "dict_values", data := .fields #[.ref d] } } : Shared) = s2 at *
  refine ⟨.ref s2.heap.objs.size, _, I2.laid (t' := tk) (o := .lst (kvs.map (·.2))) keep (Nat.le_refl _) ⟨by rw [List.length_map]; omega, acc.toList, c, vals_of ((List.length_map ..).trans asz.symm) fun i h1 h2 => ?_, by rw [Array.toArray_toList]; exact hS⟩, rfl, q _ (I2.hok.fresh (Nat.le_refl _))⟩
  have hi : i < acc.size := by simpa using h2
  obtain ⟨hi2, ev⟩ := got.2 i acc[i] (Array.getElem?_eq_getElem hi)
  obtain ⟨y, hy, _, hy2, _⟩ := items i hi2
  obtain ⟨w', hw, rw'⟩ := vals_at kt hy
  have e1 : (kvs.map (·.2))[i] = w'.2 := by
    have : kvs[i]? = some w' := hw
    rw [List.getElem_map]
    exact congrArg (·.2) (List.getElem?_eq_some_iff.mp this).2
  rw [e1, Array.getElem_toList, ev, hy2]
  exact rw'
end
end EM
namespace EM
open PySem PySem.Spec PyProof.Rows L2
/-! ### the table of all twos -/
def keyTo (n a m : Nat) : List (List Key) := (List.range m).map fun (j : Nat) => [.inl (a : Int), .inl ((a : Int) + 1 + (j : Int))]
def twosTo (n : Nat) : Nat → List (List Key)
  | 0 => []
  | i + 1 => twosTo n i ++ keyTo n i (n - (i + 1))
def twos (n : Nat) : List (List Key) := twosTo n n
theorem keyTo_succ (n a m : Nat) : keyTo n a (m + 1) = keyTo n a m ++ [[.inl (a : Int), .inl ((a : Int) + 1 + (m : Int))]] := by
  unfold keyTo
  rw [List.range_succ, List.map_append]
  rfl
theorem mem_keyTo {n a m : Nat} {k : List Key} : k ∈ keyTo n a m ↔ ∃ b : Nat, a < b ∧ b < a + 1 + m ∧ k = [.inl (a : Int), .inl (b : Int)] := by
  unfold keyTo
  rw [List.mem_map]
  constructor
  · rintro ⟨j, hj, rfl⟩
    have := List.mem_range.mp hj
    exact ⟨a + 1 + j, by omega, by omega, by simp⟩
  · rintro ⟨b, h1, h2, rfl⟩
    exact ⟨b - (a + 1), List.mem_range.mpr (by omega), by rw [show ((a : Int) + 1 + ((b - (a + 1) : Nat) : Int)) = (b : Int) by omega]⟩
theorem mem_twosTo {n i : Nat} {k : List Key} : k ∈ twosTo n i ↔ ∃ a b : Nat, a < i ∧ a < b ∧ b < n ∧ k = [.inl (a : Int), .inl (b : Int)] := by
  induction i with
  | zero =>
    refine ⟨fun h => absurd h (by simp [twosTo]), ?_⟩
    rintro ⟨a, b, h, _⟩
    omega
  | succ i ih =>
    rw [twosTo, List.mem_append, ih, mem_keyTo]
    constructor
    · rintro (⟨a, b, h1, h2, h3, rfl⟩ | ⟨b, h1, h2, rfl⟩)
      · exact ⟨a, b, by omega, h2, h3, rfl⟩
      · exact ⟨i, b, by omega, h1, by omega, rfl⟩
    · rintro ⟨a, b, h1, h2, h3, rfl⟩
      by_cases e : a < i
      · exact .inl ⟨a, b, e, h2, h3, rfl⟩
      · obtain rfl : a = i := by omega
        exact .inr ⟨b, h2, by omega, rfl⟩
theorem twos_new {n i j : Nat} : [Sum.inl (i : Int), Sum.inl ((i : Int) + 1 + (j : Int))] ∉ twosTo n i ++ keyTo n i j := by
  intro h
  rcases List.mem_append.mp h with h | h
  · obtain ⟨a, b, h1, _, _, e⟩ := mem_twosTo.mp h
    have := inl_eq (List.cons.inj e).1
    omega
  · obtain ⟨b, h1, h2, e⟩ := mem_keyTo.mp h
    have := inl_eq (List.cons.inj (List.cons.inj e).2).1
    omega
theorem twosTo_len (n i : Nat) : (twosTo n i).length ≤ i * n := by
  induction i with
  | zero => exact Nat.zero_le _
  | succ i ih =>
    rw [twosTo, List.length_append, Nat.succ_mul]
    have : (keyTo n i (n - (i + 1))).length ≤ n := by
      unfold keyTo
      rw [List.length_map, List.length_range]
      omega
    omega
theorem twos_part_len {n i j : Nat} (h : j ≤ n) : (twosTo n i ++ keyTo n i j).length ≤ (i + 1) * n := by
  have := twosTo_len n i
  have k : (keyTo n i j).length = j := by
    unfold keyTo
    rw [List.length_map, List.length_range]
  rw [List.length_append, k, Nat.succ_mul]
  omega
/-- a table over the keys L that counts ks -/
def tab (L ks : List (List Key)) : List (List Key × V) := L.map fun k => (k, V.int ((cntK ks k : Nat) : Int))
theorem tab_val {L ks : List (List Key)} {k : List Key} (h : k ∈ L) : valV (tab L ks) k = some (V.int ((cntK ks k : Nat) : Int)) := by
  unfold tab
  rw [map_val, if_pos h]
theorem tab_new {L : List (List Key)} {k : List Key} (h : k ∉ L) : putK (tab L []) k (.int 0) = tab (L ++ [k]) [] := by
  have none : valV (tab L []) k = .none := by
    unfold tab
    rw [map_val, if_neg h]
  rw [putK_new _ none]
  unfold tab
  rw [List.map_append]
  rfl
theorem tab_add {L ks : List (List Key)} {k : List Key} (h : k ∈ L) : putK (tab L ks) k (.int (((cntK ks k : Nat) : Int) + 1)) = tab L (ks ++ [k]) := by
  unfold putK
  rw [valV_any, tab_val h, Option.isSome_some, if_pos rfl]
  unfold tab
  rw [List.map_map]
  refine List.map_congr_left fun x _ => ?_
  show (if x = k then (x, V.int (((cntK ks k : Nat) : Int) + 1)) else (x, V.int ((cntK ks x : Nat) : Int))) = _
  by_cases e : x = k
  · rw [if_pos e, e, cntK_app, cntK_cons, if_pos rfl]
    rfl
  · rw [if_neg e, cntK_app, cntK_cons, if_neg (fun z => e z.symm)]
    rfl
theorem key_in {t : Int} {p : Int × Int} (h : 0 ≤ p.1 ∧ p.1 < t ∧ 0 ≤ p.2 ∧ p.2 < t ∧ p.1 ≠ p.2) : keyOf p ∈ twos t.toNat := by
  obtain ⟨h1, h2, h3, h4, h5⟩ := h
  unfold twos
  rw [mem_twosTo]
  by_cases e : p.1 < p.2
  · refine ⟨p.1.toNat, p.2.toNat, by omega, by omega, by omega, ?_⟩
    have : keyOf p = [.inl p.1, .inl p.2] := key_lo e
    rw [this, show ((p.1.toNat : Nat) : Int) = p.1 by omega, show ((p.2.toNat : Nat) : Int) = p.2 by omega]
  · refine ⟨p.2.toNat, p.1.toNat, by omega, by omega, by omega, ?_⟩
    have : keyOf p = [.inl p.2, .inl p.1] := key_hi (show p.2 < p.1 by omega)
    rw [this, show ((p.1.toNat : Nat) : Int) = p.1 by omega, show ((p.2.toNat : Nat) : Int) = p.2 by omega]
theorem two_in {n : Nat} {a b : Int} (a0 : 0 ≤ a) (ab : a < b) (bn : b < n) : [Sum.inl a, Sum.inl b] ∈ twos n := by
  unfold twos
  rw [mem_twosTo]
  exact ⟨a.toNat, b.toNat, by omega, by omega, by omega, by rw [show ((a.toNat : Nat) : Int) = a by omega, show ((b.toNat : Nat) : Int) = b by omega]⟩
/-- the keys so far, of the rows ahead and a row's first ones -/
theorem keys_upto {pl : List (List (Int × Int))} {i j : Nat} {row : List (Int × Int)} (hr : pl[i]? = some row) {p : Int × Int} (hp : row[j]? = some p) : (keysOf (pl.take i) ++ (row.take j).map keyOf) ++ [keyOf p] = keysOf (pl.take i) ++ (row.take (j + 1)).map keyOf := by
  rw [take_snoc hp, List.map_append, List.append_assoc]
  rfl
theorem keys_row {pl : List (List (Int × Int))} {i : Nat} {row : List (Int × Int)} (hr : pl[i]? = some row) : keysOf (pl.take i) ++ row.map keyOf = keysOf (pl.take (i + 1)) := by
  unfold keysOf
  rw [take_snoc hr, List.flatten_append, List.map_append]
  simp
theorem dc2_sw {k v a p b q : Expr} {sc : Scope} {ps py : Pos} {y : Str} {l : Nat} {en : Env} (hk : en.scope.kind = .function) (hy : en.scope.names.lookup y = some .local) (hl : (py.line == ps.line) = true) (ha : (sc.names.any fun z => z.1 == y && (z.2 == .local || z.2 == .cell)) = false) :
    swapsWith (DC2 k v a p b q sc ps) (some (.Name y py)) l en = pure true := by
  have one : en.kindOf y = some .local := hy
  have fn : en.blockKind = .function := by
    unfold Env.blockKind
    rw [hk]
    rfl
  unfold swapsWith
  simp only [fn, one, ha, Expr.pos, hl]
  rfl
end EM
namespace EM
open PySem
def topS (i : Nat) : Stmt := PySem.Challenge.pw_everymeets_k04_answers_by_hand.main.body.getD i (.Pass ⟨0, 0, 0, 0⟩)
abbrev c_MeetError : Stmt := topS 1
abbrev c_BadTeams : Stmt := topS 2
abbrev c_BadTeam : Stmt := topS 3
abbrev c_BadRound : Stmt := topS 4
abbrev t_is_number : Stmt := topS 6
abbrev t_is_counted : Stmt := topS 7
abbrev t_check_teams : Stmt := topS 8
abbrev t_check_team : Stmt := topS 9
abbrev t_check_round : Stmt := topS 10
abbrev t_pairs_of_each : Stmt := topS 12
abbrev t_pairs_of_two : Stmt := topS 13
abbrev c_Answer : Stmt := topS 15
abbrev c_Good : Stmt := topS 16
abbrev c_Lone : Stmt := topS 17
abbrev c_Twice : Stmt := topS 18
abbrev c_Never : Stmt := topS 19
abbrev t__all_one : Stmt := topS 20
abbrev t__are_two : Stmt := topS 21
abbrev t_opponent : Stmt := topS 23
abbrev t_at_home : Stmt := topS 24
abbrev t__check_team_in_round : Stmt := topS 25
abbrev t__law_cell_at : Stmt := topS 27
abbrev t__law_draw : Stmt := topS 28
abbrev t__law_value : Stmt := topS 29
abbrev t__law_plan : Stmt := topS 30
abbrev t__law_often : Stmt := topS 31
abbrev t__law_lone : Stmt := topS 32
abbrev t__law_good : Stmt := topS 33
abbrev t__law_plans : Stmt := topS 34
abbrev t__law_says : Stmt := topS 35
abbrev t__law_lone_right : Stmt := topS 36
abbrev t__law_two_right : Stmt := topS 37
abbrev t_law : Stmt := topS 38
end EM
namespace EM
open PySem PySem.Spec PyProof.Rows L2
theorem scIsNumber : FnScope ["value"] ["value"] (defScope t_is_number) := ⟨rfl, rfl, rfl, by decide +kernel, rfl, by decide +kernel, by decide +kernel⟩
theorem scChkTeams : FnScope ["teams"] ["teams"] (defScope t_check_teams) := ⟨rfl, rfl, rfl, by decide +kernel, rfl, by decide +kernel, by decide +kernel⟩
theorem scChkTeam : FnScope ["teams", "team"] ["teams", "team"] (defScope t_check_team) := ⟨rfl, rfl, rfl, by decide +kernel, rfl, by decide +kernel, by decide +kernel⟩
theorem scChkRound : FnScope ["teams", "number"] ["teams", "number"] (defScope t_check_round) := ⟨rfl, rfl, rfl, by decide +kernel, rfl, by decide +kernel, by decide +kernel⟩
theorem scChkTR : FnScope ["teams", "team", "number"] ["teams", "team", "number"] (defScope t__check_team_in_round) := ⟨rfl, rfl, rfl, by decide +kernel, rfl, by decide +kernel, by decide +kernel⟩
section
variable {P : Program} {w : World} {K : PySem.W.Frag} {mg : Str → Option Value} {base : Heap}
/-! ### is_number -/
def spWhole : Sp := fun vs H Q _ => ∃ n : Int, vs = [.int n] ∧ Q (.bl true) H
theorem fn_isNumber (d : DefAt K mg "is_number" t_is_number ["value"]) (T : Names mg) : Fn P w K mg base "is_number" ["value"] 1 spWhole := by
  refine d.fn scIsNumber (fun vs H Q E h => ?_) (fun f cdv A outer s H vs Q E hr h => ?_)
  · obtain ⟨n, rfl, _⟩ := h
    rfl
  · obtain ⟨n, rfl, q⟩ := h
    refine ⟨_, pss_one (ps_ret (pe_and (pe_callB call_isi (by rfl) T.isinst boot_isinstance (pa_cons (pv 0) (pa_cons (pe_bltn (v := .ty "int") (by rfl) T.int boot_int rfl) pa_nil)))
      (pe_one (pe_not (pe_callB call_isi (by rfl) T.isinst boot_isinstance (pa_cons (pv 0) (pa_cons (pe_bltn (v := .ty "bool") (by rfl) T.bool boot_bool rfl) pa_nil))))))), ?_⟩
    refine ⟨.int n, rfl, .int n, .ty "int", _, _, true, rfl, .ty "int", .base (.int n), kit_ty (by decide +kernel), true, rfl, iteT ?_⟩
    exact ⟨.int n, rfl, .int n, .ty "bool", _, _, false, rfl, .ty "bool", .base (.int n), kit_ty (by decide +kernel), false, rfl, q⟩
/-! ### check_teams, check_team, check_round -/
def spTeams : Sp := fun vs H Q _ => ∃ t : Int, vs = [.int t] ∧ TOk t ∧ Q .non H
theorem fn_chkTeams (d : DefAt K mg "check_teams" t_check_teams ["teams"]) (F : Fn P w K mg base "is_number" ["value"] 1 spWhole) : Fn P w K mg base "check_teams" ["teams"] 2 spTeams := by
  refine d.fn scChkTeams (fun vs H Q E h => ?_) (fun f cdv A outer s H vs Q E hr h => ?_)
  · obtain ⟨n, rfl, _⟩ := h
    rfl
  · obtain ⟨t, rfl, T, q⟩ := h
    refine ⟨_, pss_one (ps_if (PW.pt (pw_or (pt_not (pt_val (pe_f F hr (by decide) (by rfl) (pa_cons (pv 0) pa_nil))))
      (pw_or (pt_cmpR op_lt (pv 0) pe_int (nomark _)) (pw_or1 (pt_cmpR op_ne (pe_op op_mod (pv 0) pe_int) pe_int (nomark _))))))
      (pss_one ps_never) pss_nil), ?_⟩
    have := T.two
    refine ⟨.int t, rfl, t, rfl, true, rfl, iteF ⟨.int t, rfl, t, 2, rfl, rfl, _, rfl, itF (by omega) ?_⟩⟩
    exact ⟨.int t, rfl, t, 2, rfl, rfl, (by show (0 : Int) < 2; decide), rfl, _, rfl, iteNS (c := V.int (t % 2) = V.int 0) (by rw [T.even]) q⟩
/-! ### is_counted -/
theorem scCounted : FnScope ["many", "value"] ["many", "value"] (defScope t_is_counted) := ⟨rfl, rfl, rfl, by decide +kernel, rfl, by decide +kernel, by decide +kernel⟩
def spCnt : Sp := fun vs H Q _ => ∃ n a : Int, vs = [.int n, .int a] ∧ Q (.bl (decide (0 ≤ a ∧ a < n))) H
theorem fn_counted (d : DefAt K mg "is_counted" t_is_counted ["many", "value"]) (F : Fn P w K mg base "is_number" ["value"] 1 spWhole) : Fn P w K mg base "is_counted" ["many", "value"] 2 spCnt := by
  refine d.fn scCounted (fun vs H Q E h => ?_) (fun f cdv A outer s H vs Q E hr h => ?_)
  · obtain ⟨n, a, rfl, _⟩ := h
    rfl
  · obtain ⟨n, a, rfl, q⟩ := h
    refine ⟨_, pss_one (ps_ret (pe_and (pe_f F hr (by decide) (by rfl) (pa_cons (pv 1) pa_nil)) (pe_one (pe_chain op_le op_lt pe_int (pv 1) (pv 0))))), ?_⟩
    refine ⟨.int a, rfl, a, rfl, true, rfl, iteT ⟨.int a, rfl, 0, a, rfl, rfl, _, rfl, ite2 (fun z => ?_) (fun z => ?_)⟩⟩
    · have z : 0 ≤ a := of_decide_eq_true z
      refine ⟨.int n, rfl, a, n, rfl, rfl, ?_⟩
      have e : decide (0 ≤ a ∧ a < n) = decide (a < n) := decide_eq_decide.mpr ⟨fun h => h.2, fun h => ⟨z, h⟩⟩
      rw [e] at q
      exact q
    · have z : ¬ 0 ≤ a := fun y => z (decide_eq_true y)
      rw [decide_eq_false fun y => z y.1] at q
      exact q
def spTeam : Sp := fun vs H Q _ => ∃ t a : Int, vs = [.int t, .int a] ∧ 0 ≤ a ∧ a < t ∧ Q .non H
theorem fn_chkTeam (d : DefAt K mg "check_team" t_check_team ["teams", "team"]) (F : Fn P w K mg base "is_counted" ["many", "value"] 2 spCnt) : Fn P w K mg base "check_team" ["teams", "team"] 3 spTeam := by
  refine d.fn scChkTeam (fun vs H Q E h => ?_) (fun f cdv A outer s H vs Q E hr h => ?_)
  · obtain ⟨t, a, rfl, _⟩ := h
    rfl
  · obtain ⟨t, a, rfl, a0, a1, q⟩ := h
    refine ⟨_, pss_one (ps_if (pt_not (pt_val (pe_f F hr (by decide) (by rfl) (pa_cons (pv 0) (pa_cons (pv 1) pa_nil))))) (pss_one ps_never) pss_nil), ?_⟩
    refine ⟨.int t, rfl, .int a, rfl, t, a, rfl, _, rfl, ?_⟩
    rw [decide_eq_true (⟨a0, a1⟩ : 0 ≤ a ∧ a < t)]
    exact iteF q
def spRound : Sp := fun vs H Q _ => ∃ t r : Int, vs = [.int t, .int r] ∧ 0 ≤ r ∧ r < t - 1 ∧ Q .non H
theorem fn_chkRound (d : DefAt K mg "check_round" t_check_round ["teams", "number"]) (F : Fn P w K mg base "is_counted" ["many", "value"] 2 spCnt) : Fn P w K mg base "check_round" ["teams", "number"] 3 spRound := by
  refine d.fn scChkRound (fun vs H Q E h => ?_) (fun f cdv A outer s H vs Q E hr h => ?_)
  · obtain ⟨t, a, rfl, _⟩ := h
    rfl
  · obtain ⟨t, a, rfl, a0, a1, q⟩ := h
    refine ⟨_, pss_one (ps_if (pt_not (pt_val (pe_f F hr (by decide) (by rfl) (pa_cons (pe_op op_sub (pv 0) pe_int) (pa_cons (pv 1) pa_nil))))) (pss_one ps_never) pss_nil), ?_⟩
    refine ⟨.int t, rfl, t, 1, rfl, rfl, .int a, rfl, t - 1, a, rfl, _, rfl, ?_⟩
    rw [decide_eq_true (⟨a0, a1⟩ : 0 ≤ a ∧ a < t - 1)]
    exact iteF q
def spTR : Sp := fun vs H Q _ => ∃ t a r : Int, vs = [.int t, .int a, .int r] ∧ TOk t ∧ 0 ≤ a ∧ a < t ∧ 0 ≤ r ∧ r < t - 1 ∧ Q .non H
theorem fn_chkTR (d : DefAt K mg "_check_team_in_round" t__check_team_in_round ["teams", "team", "number"]) (F1 : Fn P w K mg base "check_teams" ["teams"] 2 spTeams) (F2 : Fn P w K mg base "check_team" ["teams", "team"] 3 spTeam) (F3 : Fn P w K mg base "check_round" ["teams", "number"] 3 spRound) : Fn P w K mg base "_check_team_in_round" ["teams", "team", "number"] 4 spTR := by
  refine d.fn scChkTR (fun vs H Q E h => ?_) (fun f cdv A outer s H vs Q E hr h => ?_)
  · obtain ⟨t, a, r, rfl, _⟩ := h
    rfl
  · obtain ⟨t, a, r, rfl, T, a0, a1, r0, r1, q⟩ := h
    refine ⟨_, pss_cons (ps_expr (pe_f F1 hr (by decide) (by rfl) (pa_cons (pv 0) pa_nil))) (pss_cons (ps_expr (pe_f F2 hr (by decide) (by rfl) (pa_cons (pv 0) (pa_cons (pv 1) pa_nil))))
      (pss_one (ps_expr (pe_f F3 hr (by decide) (by rfl) (pa_cons (pv 0) (pa_cons (pv 2) pa_nil)))))), ?_⟩
    exact ⟨.int t, rfl, t, rfl, T, .int t, rfl, .int a, rfl, t, a, rfl, a0, a1, .int t, rfl, .int r, rfl, t, r, rfl, r0, r1, q⟩
end
end EM
namespace EM
open PySem PySem.Spec PyProof.Rows L2
/-! ### pairs_of_two -/
theorem scTwo : FnScope ["teams", "plan", "counts", "pairs", "home", "away", "one", "other"] ["teams", "plan"] (defScope t_pairs_of_two) := ⟨rfl, rfl, rfl, by decide +kernel, rfl, by decide +kernel, by decide +kernel⟩
section
variable {P : Program} {w : World} {K : PySem.W.Frag} {mg : Str → Option Value} {base : Heap}
def spTwo : Sp := fun vs H Q _ => ∃ (t : Int) (v : V) (pl : List (List (Int × Int))), vs = [.int t, v] ∧ 2 ≤ t ∧ t ≤ 20 ∧ LAt RowAt H v pl ∧ Valid t pl ∧ ∀ G p, Same H G → H p = none → G p = some (.dT (tab (twos t.toNat) (keysOf pl))) → Q (.ref p) G
theorem fn_two0 (d : DefAt K mg "pairs_of_two" t_pairs_of_two ["teams", "plan"]) (N : Names mg) : Fn P w K mg base "pairs_of_two" ["teams", "plan"] 1 spTwo := by
  refine d.fn scTwo (fun vs H Q E h => ?_) (fun f cdv A outer s H vs Q E hr h => ?_)
  · obtain ⟨t, v, pl, rfl, _⟩ := h
    rfl
  · obtain ⟨t, v, pl, rfl, t2, t20, hP, hv, q⟩ := h
    refine ⟨_, pss_cons (ps_setDc2 (i := 2) (own := [("one", 6), ("other", 7)]) (vs1 := [7]) (g := gName 6) (g1 := gName 7) rfl scTwo.nd rfl rfl (dc2_sw rfl rfl rfl (by decide +kernel)) (Nat.lt_of_succ_lt (hu_of hr)) (pi_range1 (by rfl) N.range (pa_cons (pv 0) pa_nil))
        (blkOk_by (N := ["teams", "plan", "counts", "pairs", "home", "away", "one", "other"]) (sc := defScope t_pairs_of_two) (by decide +kernel)) (fun j hj => by rw [List.mem_singleton.mp hj]; decide)
        (fun _ _ _ _ _ => pg_name (i := 6) scTwo.nd rfl (Or.inl rfl)) (fun _ _ _ _ _ => pi_range2 (by rfl) N.range (pa_cons (pe_op op_add (pv 6) pe_int) (pa_cons (pv 0) pa_nil))) (fun _ _ _ _ _ => pg_name (i := 7) scTwo.nd rfl (Or.inl rfl))
        (fun _ _ _ _ _ => pe_tup (pa_cons (pv 6) (pa_cons (pv 7) pa_nil))) (fun _ _ _ _ _ => pe_int))
      (pss_cons (ps_for PassesOwn.never rfl (pi_list (pv 1)) (pg_name (i := 3) scTwo.nd rfl (.inl rfl))
        (pss_one (ps_for PassesOwn.never rfl (pi_list (pv 3)) (pg_tup rfl (pgs_cons (pg_name (i := 4) scTwo.nd rfl (.inl rfl)) (pgs_cons (pg_name (i := 5) scTwo.nd rfl (.inl rfl)) pgs_nil)))
          (pss_one (ps_daug (hu_of hr) (pv 2) (pe_tup (pa_cons (pe_callB (call_min2 rfl) (by rfl) N.min boot_min (pa_cons (pv 4) (pa_cons (pv 5) pa_nil))) (pa_cons (pe_callB (call_max2 rfl) (by rfl) N.max boot_max (pa_cons (pv 4) (pa_cons (pv 5) pa_nil))) pa_nil))) pe_int in_add (fun _ _ _ => rfl))))))
      (pss_one (ps_ret (pv 2)))), ?_⟩
    obtain ⟨n, rfl⟩ : ∃ n : Nat, t = (n : Int) := ⟨t.toNat, by omega⟩
    have tn : ((n : Int)).toNat = n := Int.toNat_natCast n
    rw [tn] at q
    refine ⟨.int n, rfl, n, rfl, by omega, by omega, fun D nD => ?_⟩
    refine ⟨fun i m G => m = n - i ∧ i ≤ n ∧ Same H G ∧ G D = some (.dT (tab (twosTo n i) [])), ⟨n, rfl, Nat.zero_le _, same_upd nD, upd_same⟩, ?_⟩
    rintro i m G ⟨rfl, le, s1, e1⟩
    by_cases lt : i < n
    · refine .inr ⟨lt, fun G' => Same H G' ∧ G' D = some (.dT (tab (twosTo n (i + 1)) [])), fun G' h => ⟨n - (i + 1), by omega, rfl, lt, h⟩, ?_⟩
      rintro x G' ⟨rfl, rfl⟩
      rw [Int.zero_add]
      refine ⟨rfl, .int i, rfl, i, 1, rfl, rfl, .int n, rfl, i + 1, n, rfl, by omega, ?_⟩
      have cnt : ((n : Int) - ((i : Int) + 1)).toNat = n - (i + 1) := by omega
      rw [cnt]
      refine ⟨fun j m G => m = (n - (i + 1)) - j ∧ j ≤ n - (i + 1) ∧ Same H G ∧ G D = some (.dT (tab (twosTo n i ++ keyTo n i j) [])), ⟨_, rfl, Nat.zero_le _, s1, by rw [e1]; unfold keyTo; simp⟩, ?_⟩
      rintro j m G2 ⟨rfl, le2, s2, e2⟩
      by_cases lt2 : j < n - (i + 1)
      · refine .inr ⟨lt2, fun G' => Same H G' ∧ G' D = some (.dT (tab (twosTo n i ++ keyTo n i (j + 1)) [])), fun G' h => ⟨(n - (i + 1)) - (j + 1), by omega, rfl, lt2, h⟩, ?_⟩
        rintro x G' ⟨rfl, rfl⟩
        refine ⟨rfl, .int i, rfl, .int (i + 1 + j), rfl, by show 2 ≤ sizeLine; decide, fun b nb => ?_⟩
        have s3 := same_upd (o := .tup [.int (i : Int), .int ((i : Int) + 1 + (j : Int))]) nb
        have len := twos_part_len (n := n) (i := i) (j := j) (by omega)
        have room : (i + 1) * n ≤ 20 * 20 := Nat.mul_le_mul (by omega) (by omega)
        refine ⟨b, tab (twosTo n i ++ keyTo n i j) [], [.inl (i : Int), .inl ((i : Int) + 1 + (j : Int))], rfl, s3 _ _ e2, upd_same, ?_, ?_, ?_⟩
        · unfold tab
          rw [List.length_map]
          exact small1000 (by omega)
        · refine fun c o ec => ?_
          rw [upd_ne (ne_of_none ec nD)]
          exact s3 _ _ (s2 _ _ ec)
        · rw [upd_same, tab_new twos_new, keyTo_succ, ← List.append_assoc]
      · obtain rfl : j = n - (i + 1) := by omega
        exact .inl ⟨Nat.le_refl _, s2, by rw [e2]; rfl⟩
    · obtain rfl : i = n := by omega
      refine .inl ⟨Nat.le_refl _, ?_⟩
      have e1 : G D = some (.dT (tab (twos i) (keysOf (pl.take 0)))) := e1
      obtain ⟨a, us, rfl, ea, au⟩ := hP
      have ea1 := s1 _ _ ea
      have klen : (tab (twos i) []).length ≤ 400 := by
        unfold tab
        rw [List.length_map]
        exact Nat.le_trans (twosTo_len i i) (Nat.mul_le_mul (show i ≤ 20 by omega) (show i ≤ 20 by omega))
      refine ⟨.ref a, rfl, a, rfl, ⟨_, SqL.of ea1⟩, for_list (K := K) (a := a) (xs := us) (fun r σ G' => ∃ y3 y4 y5, σ = [some (.int i), some (.ref a), some (.ref D), y3, y4, y5, none, none] ∧ Same H G' ∧ G' D = some (.dT (tab (twos i) (keysOf (pl.take r)))))
        ⟨_, _, _, rfl, s1, e1⟩ (fun r σ G' _ ⟨_, _, _, _, h, _⟩ => SqL.of (h _ _ ea)) ?_ ?_⟩
      · rintro r x σ G1 hx ⟨y3, y4, y5, rfl, s2, e2⟩
        obtain ⟨row, hrow, q', ws, rfl, hq, aw⟩ := au.at hx
        refine ⟨.ref q', rfl, q', rfl, ⟨_, SqL.of (s2 _ _ hq)⟩, for_list (K := K) (a := q') (xs := ws) (fun j σ G' => ∃ y4 y5, σ = [some (.int i), some (.ref a), some (.ref D), some (.ref q'), y4, y5, none, none] ∧ Same H G' ∧ G' D = some (.dT (tab (twos i) (keysOf (pl.take r) ++ (row.take j).map keyOf))))
          ⟨_, _, rfl, s2, by rw [e2]; simp⟩ (fun j σ G' _ ⟨_, _, _, h, _⟩ => SqL.of (h _ _ hq)) ?_ ?_⟩
        · rintro j y σ G2 hy ⟨y4, y5, rfl, s3, e3⟩
          obtain ⟨p, hp, qp, rfl, hqp⟩ := aw.at hy
          have ep := s3 _ _ hqp
          have inn : keyOf p ∈ twos i := by
            have := key_in (hv row (List.mem_of_getElem? hrow) p (List.mem_of_getElem? hp))
            rw [tn] at this
            exact this
          refine ⟨qp, _, rfl, SqT.of ep, rfl, _, _, rfl, _, _, rfl, rfl, ?_⟩
          refine ⟨.ref D, rfl, _, rfl, _, rfl, p.1, p.2, rfl, _, rfl, _, rfl, p.1, p.2, rfl, by show 2 ≤ sizeLine; decide, fun b nb => ?_⟩
          have s4 := same_upd (o := .tup [.int (if p.2 < p.1 then p.2 else p.1), .int (if p.2 > p.1 then p.2 else p.1)]) nb
          have e4 := s4 _ _ e3
          refine ⟨D, _, rfl, by rw [← tab_val inn]; exact DGet.t (k := keyOf p) e4 upd_same, _, 1, rfl, rfl, _, DPut.t (k := keyOf p) e4 upd_same (by unfold tab at klen ⊢; rw [List.length_map] at klen ⊢; exact small1000 (by omega)), ?_⟩
          refine ⟨_, _, rfl, fun c o ec => ?_, ?_⟩
          · rw [upd_ne (ne_of_none ec nD)]
            exact s4 _ _ (s3 _ _ ec)
          · rw [upd_same]
            refine (congrArg (fun x => some (HO.dT x)) (tab_add inn)).trans ?_
            rw [keys_upto hrow hp]
        · rintro σ G2 ⟨y4, y5, rfl, s3, e3⟩
          refine ⟨_, _, _, rfl, s3, ?_⟩
          rw [e3, aw.len, List.take_length, keys_row hrow]
      · rintro σ G1 ⟨y3, y4, y5, rfl, s2, e2⟩
        refine ⟨.ref D, rfl, q G1 D s2 nD ?_⟩
        rw [e2, au.len, List.take_length]
end
end EM
namespace EM
open PySem PySem.Spec PyProof.Rows L2
/-! ### pairs_of_each -/
def rGetL (K : PySem.W.Frag) : R2 := fun x y H Q => ∃ (p : Addr) (xs : List V) (i : Nat) (z : V), x = .ref p ∧ y = .int (i : Int) ∧ SqL K H p xs ∧ xs[i]? = some z ∧ Q z H
theorem get_listN {X : Cx} : PGet X (rGetL X.K) := by
  intro pins s σ H o i ov iv Q I ro ri h
  obtain ⟨p, xs, n, z, rfl, rfl, hq, he, q⟩ := h
  cases ro
  obtain ⟨t, rfl⟩ := ri
  obtain ⟨its, r, pl, hz⟩ := I.list hq
  obtain ⟨w, ew, rw'⟩ := r.get he
  have lt := (List.getElem?_eq_some_iff.mp ew).1
  have line := line63
  have len := r.length
  refine wpAny_getItem_list pl.isList (by omega) (by omega) (x := w) ?_ ⟨z, H, I, rw', q⟩
  rw [Int.toNat_natCast]
  simpa using ew
def eachL (n : Nat) (g : Nat → Int) : List V := (List.range n).map fun c => V.int (g c)
theorem eachL_len (n : Nat) (g : Nat → Int) : (eachL n g).length = n := by
  unfold eachL
  rw [List.length_map, List.length_range]
theorem at_each {n : Nat} {g : Nat → Int} {j : Nat} (h : j < n) : (eachL n g)[j]? = some (.int (g j)) := by
  unfold eachL
  rw [List.getElem?_map, List.getElem?_range h]
  rfl
theorem set_each {n : Nat} {g : Nat → Int} {j : Nat} {z : Int} : (eachL n g).set j (.int z) = eachL n (fun c => if c = j then z else g c) := by
  refine List.ext_getElem? fun i => ?_
  by_cases hi : i < n
  · rw [at_each hi]
    by_cases e : j = i
    · subst e
      rw [List.getElem?_set_self (by rw [eachL_len]; exact hi), if_pos rfl]
    · rw [List.getElem?_set_ne e, at_each hi, if_neg (fun z => e z.symm)]
  · rw [List.getElem?_eq_none (by rw [List.length_set, eachL_len]; omega), List.getElem?_eq_none (by rw [eachL_len]; omega)]
theorem each_zero (n : Nat) : (List.replicate n [V.int 0]).flatten = eachL n fun _ => 0 := by
  unfold eachL
  rw [List.map_const', List.length_range]
  induction n with
  | zero => rfl
  | succ n ih =>
    rw [List.replicate_succ, List.flatten_cons, ih, List.replicate_succ]
    rfl
theorem cnt_take {row : List (Int × Int)} {i : Nat} {p : Int × Int} (h : row[i]? = some p) (ne : p.1 ≠ p.2) (c : Int) : ((cntOf (row.take (i + 1)) c : Nat) : Int) = ((cntOf (row.take i) c : Nat) : Int) + (if c = p.1 then 1 else 0) + (if c = p.2 then 1 else 0) := by
  unfold cntOf
  rw [take_snoc h, List.filter_append, List.length_append]
  by_cases e1 : p.1 = c
  · have : hasB c p = true := hasB_iff.mpr (.inl e1)
    rw [if_pos e1.symm, if_neg (fun z => ne (e1.trans z)), List.filter_cons_of_pos this]
    simp
  · by_cases e2 : p.2 = c
    · have : hasB c p = true := hasB_iff.mpr (.inr e2)
      rw [if_neg (fun z => e1 z.symm), if_pos e2.symm, List.filter_cons_of_pos this]
      simp
    · have : ¬ hasB c p = true := fun z => (hasB_iff.mp z).elim e1 e2
      rw [if_neg (fun z => e1 z.symm), if_neg (fun z => e2 z.symm), List.filter_cons_of_neg this]
      simp
theorem scEach : FnScope ["teams", "pairs", "counts", "home", "away"] ["teams", "pairs"] (defScope t_pairs_of_each) := ⟨rfl, rfl, rfl, by decide +kernel, rfl, by decide +kernel, by decide +kernel⟩
section
variable {P : Program} {w : World} {K : PySem.W.Frag} {mg : Str → Option Value} {base : Heap}
def eachOf (t : Int) (row : List (Int × Int)) : List V := eachL t.toNat fun c => ((cntOf row (c : Int) : Nat) : Int)
def spEach : Sp := fun vs H Q _ => ∃ (t : Int) (v : V) (row : List (Int × Int)), vs = [.int t, v] ∧ 2 ≤ t ∧ t ≤ 20 ∧ RowAt H v row ∧ VRow t row ∧ ∀ G p, Same H G → H p = none → G p = some (.lst (eachOf t row)) → Q (.ref p) G
theorem fn_each (d : DefAt K mg "pairs_of_each" t_pairs_of_each ["teams", "pairs"]) : Fn P w K mg base "pairs_of_each" ["teams", "pairs"] 1 spEach := by
  refine d.fn scEach (fun vs H Q E h => ?_) (fun f cdv A outer s H vs Q E hr h => ?_)
  · obtain ⟨t, v, row, rfl, _⟩ := h
    rfl
  · obtain ⟨t, v, row, rfl, t2, t20, hR, hv, q⟩ := h
    refine ⟨_, pss_cons (ps_set (i := 2) scEach.nd rfl (.inl rfl) (pe_op op_rep (pe_lst (pa_cons pe_int pa_nil)) (pv 0)))
      (pss_cons (ps_for PassesOwn.never rfl (pi_list (pv 1)) (pg_tup rfl (pgs_cons (pg_name (i := 3) scEach.nd rfl (.inl rfl)) (pgs_cons (pg_name (i := 4) scEach.nd rfl (.inl rfl)) pgs_nil)))
        (pss_cons (ps_augS (pv 2) (pv 3) get_listN pe_int ip_add set_list) (pss_one (ps_augS (pv 2) (pv 4) get_listN pe_int ip_add set_list))))
      (pss_one (ps_ret (pv 2)))), ?_⟩
    obtain ⟨n, rfl⟩ : ∃ n : Nat, t = (n : Int) := ⟨t.toNat, by omega⟩
    have tn : ((n : Int)).toNat = n := Int.toNat_natCast n
    unfold eachOf at q
    rw [tn] at q
    obtain ⟨a, us, rfl, ea, au⟩ := hR
    refine ⟨by show 1 ≤ sizeLine; decide, fun L nL => ?_⟩
    have sL := same_upd (o := .lst [.int 0]) nL
    refine ⟨.int n, rfl, L, n, [.int 0], rfl, rfl, upd_same, by omega, by omega, ?_, fun D nD => ?_⟩
    · rw [tn]
      exact Nat.le_of_lt (small1000 (by simp; omega))
    rw [tn, each_zero]
    have sD := same_upd (o := .lst (eachL n fun _ => 0)) nD
    have nD0 : H D = none := sL.free nD
    refine ⟨.ref a, rfl, a, rfl, ⟨_, SqL.of (sD _ _ (sL _ _ ea))⟩, for_list (K := K) (a := a) (xs := us) (fun i σ G => ∃ y3 y4, σ = [some (.int n), some (.ref a), some (.ref D), y3, y4] ∧ Same H G ∧ G D = some (.lst (eachL n fun c => ((cntOf (row.take i) (c : Int) : Nat) : Int))))
      ⟨_, _, rfl, sL.trans sD, upd_same⟩ (fun i σ G _ ⟨_, _, _, h, _⟩ => SqL.of (h _ _ ea)) ?_ ?_⟩
    · rintro i x σ G hx ⟨y3, y4, rfl, s1, e1⟩
      obtain ⟨p, hp, qp, rfl, hqp⟩ := au.at hx
      obtain ⟨b0, b1, b2, b3, ne⟩ := hv p (List.mem_of_getElem? hp)
      obtain ⟨h, hh⟩ : ∃ h : Nat, p.1 = (h : Int) := ⟨p.1.toNat, by omega⟩
      obtain ⟨k, hk⟩ : ∃ k : Nat, p.2 = (k : Int) := ⟨p.2.toNat, by omega⟩
      have hn : h < n := by omega
      have kn : k < n := by omega
      refine ⟨qp, _, rfl, SqT.of (s1 _ _ hqp), rfl, _, _, rfl, _, _, rfl, rfl, ?_⟩
      refine ⟨.ref D, rfl, .int p.1, rfl, D, _, h, _, rfl, by rw [hh], SqL.of e1, at_each hn, _, 1, rfl, rfl, D, _, p.1, h, rfl, rfl, e1, ?_, ?_⟩
      · rw [eachL_len, hh]
        unfold ixN
        rw [if_pos (by omega), if_pos (by omega), Int.toNat_natCast]
      rw [set_each]
      refine ⟨.ref D, rfl, .int p.2, rfl, D, _, k, _, rfl, by rw [hk], SqL.of upd_same, at_each kn, _, 1, rfl, rfl, D, _, p.2, k, rfl, rfl, upd_same, ?_, ?_⟩
      · rw [eachL_len, hk]
        unfold ixN
        rw [if_pos (by omega), if_pos (by omega), Int.toNat_natCast]
      rw [set_each]
      refine ⟨_, _, rfl, fun c o ec => ?_, ?_⟩
      · have ncD : c ≠ D := ne_of_none ec nD0
        rw [upd_ne ncD, upd_ne ncD]
        exact s1 _ _ ec
      · rw [upd_same]
        congr 3
        funext c
        rw [cnt_take hp ne, hh, hk]
        have nhk : h ≠ k := fun z => ne (by rw [hh, hk, z])
        by_cases e2 : c = k
        · rw [if_pos e2, e2, if_neg (fun z : k = h => nhk z.symm), if_pos rfl, if_neg (fun z => nhk (by omega))]
          dsimp only
          omega
        · rw [if_neg e2, if_neg (fun z : (c : Int) = (k : Int) => e2 (by omega))]
          by_cases e3 : c = h
          · rw [if_pos e3, e3, if_pos rfl]
            dsimp only
            omega
          · rw [if_neg e3, if_neg (fun z : (c : Int) = (h : Int) => e3 (by omega))]
            omega
    · rintro σ G ⟨y3, y4, rfl, s1, e1⟩
      refine ⟨.ref D, rfl, q G D s1 nD0 ?_⟩
      rw [e1, au.len, List.take_length]
end
end EM
namespace EM
open PySem PySem.Spec PyProof.Rows L2
/-! ### C(): an own class that has no __init__ of its own -/
structure MkO (K : PySem.W.Frag) (C : Addr) : Prop where
  makes : PySem.W.makesIn K C = true
  init : PySem.W.findIn K (.ref C) "__init__" = some (some (.builtin "object.__init__"))
  kp : PySem.W.keepIn K (.ref C) = true
def tMakeO (C : Addr) : TE := fun _ H Q => ∀ x dx, H x = none → H dx = none → dx ≠ x → Q (.ref x) (upd (upd H dx (.own x)) x (.ins C dx []))
section
variable {X : Cx} {C : Addr} {x : Str} {p pos : Pos}
theorem pe_makeO (M : MkO X.K C) (hg : Gl X x) (hm : X.mg x = some (.ref C)) (hdb : (x == ("__debug__" : Str)) = false := by decide) : PE X (.Call (.Name x p) [] [] pos) (tMakeO C) := by
  refine ⟨fun pins s σ H Q I h => ?_⟩
  refine wpAny_Call_Name_kw (ld_glob I hg hm ?_ hdb)
  refine PySem.W.callWith_K0 I.kIn M.kp (wpAny_call ?_)
  have made := Inv.made (C := C) I
  have top := (PySem.W.makes_of (M := model X.prog X.w) I.kIn M.makes).top
  have up : ∀ b o, s.heap.get? b = some o → ((s.heap.push PySem.W.emptyDict).push (PySem.W.instObj C s.heap.objs.size)).get? b = some o := fun b o e => Heap.get?_push_of_some _ (Heap.get?_push_of_some _ e)
  have here : ((s.heap.push PySem.W.emptyDict).push (PySem.W.instObj C s.heap.objs.size)).get? (s.heap.objs.size + 1) = some (PySem.W.instObj C s.heap.objs.size) := by
    have e := Heap.get?_push_size (s.heap.push PySem.W.emptyDict) (o := PySem.W.instObj C s.heap.objs.size) rfl
    rw [Heap.size_push] at e
    exact e
  have ty : PySem.W.Looks (model X.prog X.w) ((s.heap.push PySem.W.emptyDict).push (PySem.W.instObj C s.heap.objs.size)) (typeOf (.ref (s.heap.objs.size + 1))) (.ref C) := (PySem.W.Looks.ld here).andThen .now
  refine make_map0 I.kIn M.makes M.init (fun self => PySem.W.Looks.of_pure (PySem.W.oi_bind self)) ?_
  refine codeAny_call_builtin PySem.W.oi_plain PySem.W.entry_oi (@PySem.W.check_slot (model X.prog X.w) _ _ _ "object.__init__" "object" "__init__" (.ref (s.heap.objs.size + 1)) [] [] _ PySem.W.oi_kind PySem.W.oi_split (ty.andThen (top.keeps up)) (PySem.W.oi_args _) ?_)
  rw [PySem.W.oi_run]
  refine wpAny_pure (And.intro rfl ?_)
  exact ⟨V.ref (s.heap.objs.size + 1), _, made, rfl, h _ _ (I.hok.fresh (Nat.le_succ _)) (I.hok.fresh (Nat.le_refl _)) (Nat.ne_of_lt (Nat.lt_succ_self _))⟩
end
end EM
namespace EM
open PySem PySem.Spec PyProof.Rows L2
/-! ### a op b op c op d as a test -/
section
variable {X : Cx} {a b c d : Expr} {ta tb tc td : TE} {pos : Pos}
def tCh3 (r r' r2 : R2) (ta tb tc td : TE) : TT := fun σ H Q => ta σ H fun x H1 => tb σ H1 fun y H2 => r x y H2 fun z H3 => ∃ k, z = .bl k ∧
  if k = true then tc σ H3 fun y2 H4 => r' y y2 H4 fun z2 H5 => ∃ k2, z2 = .bl k2 ∧ (if k2 = true then td σ H5 fun y3 H6 => r2 y2 y3 H6 fun z3 H7 => ∃ k3, z3 = .bl k3 ∧ Q k3 H7 else Q false H5) else Q false H3
theorem pt_chain3 {o1 o2 o3 : CmpOp} {r r' r2 : R2} (h1 : OpR X (compareOp o1) r) (h2 : OpR X (compareOp o2) r') (h3 : OpR X (compareOp o3) r2) (ha : PE X a ta) (hb : PE X b tb) (hc : PE X c tc) (hd : PE X d td)
    (hm : lastMarks [o1, o2, o3] [b, c, d] = false := by with_unfolding_all rfl) : PT X (.Compare a [o1, o2, o3] [b, c, d] pos) (tCh3 r r' r2 ta tb tc td) := by
  refine ⟨fun pins s σ H Q I h => ?_⟩
  refine isTrue_chain (thn (ha.run pins s σ H _ I h) fun v s1 ⟨x, H1, I1, r1, q1⟩ => test_link (thn (hb.run pins s1 σ H1 _ I1 q1) fun u s2 ⟨y, H2, I2, r2, q2⟩ =>
    thn (h1 pins s2 σ H2 x y v u _ I2 r1 r2 q2) fun d s3 ⟨z, H3, I3, r3, k, e, q3⟩ => ?_)) hm
  subst e
  cases r3
  refine wpAny_truthy_bool ?_
  cases k with
  | false => exact ite_ff ⟨H3, I3, q3⟩
  | true =>
    refine ite_tt (test_link (thn (hc.run pins s3 σ H3 _ I3 q3) fun u2 s4 ⟨y2, H4, I4, r4, q4⟩ => thn (h2 pins s4 σ H4 y y2 u u2 _ I4 r2 r4 q4) fun d2 s5 ⟨z2, H5, I5, r5, k2, e2, q5⟩ => ?_))
    subst e2
    cases r5
    refine wpAny_truthy_bool ?_
    cases k2 with
    | false => exact ite_ff ⟨H5, I5, q5⟩
    | true =>
      refine ite_tt (test_last (thn (hd.run pins s5 σ H5 _ I5 q5) fun u3 s6 ⟨y3, H6, I6, r6, q6⟩ => thn (h3 pins s6 σ H6 y2 y3 u2 u3 _ I6 r4 r6 q6) fun d3 s7 ⟨z3, H7, I7, r7, k3, e3, q7⟩ => ?_))
      subst e3
      cases r7
      exact wpAny_truthy_bool ⟨H7, I7, q7⟩
end
/-! ### o.m(e, ..) where o is of one of several classes -/
def tMethD (S : Addr → Sp → Prop) (m : Str) (ta : TE) (t : TA) : TE := fun σ H Q => ta σ H fun x H1 => ∃ a dx fs C sp, x = .ref a ∧ H1 a = some (.ins C dx fs) ∧ fs.lookup m = none ∧ S C sp ∧ t σ H1 fun vs H2 => sp (x :: vs) H2 Q E0
structure Serves (P : Program) (w : World) (K : PySem.W.Frag) (mg : Str → Option Value) (base : Heap) (k : Nat) (C : Addr) (m : Str) (sp : Sp) : Prop where
  ex : ∃ (f : Addr) (fd : FuncData) (ps : List Str), Meth K C m f ∧ FnOk P w K mg base CX0 k f fd ps sp ∧ Binds K fd ps []
  cls : Cls K C
section
variable {X : Cx} {o e : Expr} {es : List Expr} {m : Str} {ta : TE} {t : TA} {pos apos : Pos}
theorem pe_methD {S : Addr → Sp → Prop} {k j : Nat} {pl : Sem Bool} (he : PE X o ta) (hS : ∀ C sp, S C sp → Serves X.prog X.w X.K X.mg X.base k C m sp) (hr : Room j X.A) (hj : k ≤ j) (ha : PA X (e :: es) t)
    (hst : starEach (e :: es) X.env = (false, eval e X.env) :: starEach es X.env := by rfl) (hpl : (backTo pos (starEach es X.env)).any (·.1) = false := by rfl)
    (ht : eval (.Call (.Attribute o m apos) (e :: es) [] pos) X.env = (do
      let ov ← eval o X.env
      standAt apos.atName
      let (f, first) ← holding [ov] (getMethod ov m pl)
      callWith pos f first (backTo pos (starEach (e :: es) X.env)) (backToKw pos (keywordEach [] X.env))) := by rfl) :
    PE X (.Call (.Attribute o m apos) (e :: es) [] pos) (tMethD S m ta t) := by
  refine ⟨fun pins s σ H Q I h => ?_⟩
  refine PySem.W.methodCall_KW (pl := pl) (thn (he.run pins s σ H _ I h) fun u s1 ⟨x, H1, I1, rx, a, dx, fs, C, sp, ex, ea, l, hC, q⟩ => ?_) ht
  subst ex
  obtain rfl : u = Value.ref a := rx
  obtain ⟨⟨f, fd, ps, hm, F, hb⟩, c⟩ := hS C sp hC
  refine getmeth_ok I1 ea c hm l ?_
  refine PySem.W.callWith_K (first := [.ref a]) (h₀ := X.base) I.ok.mod.kin hm.kp (thn (ha.run pos pins s1 σ H1 _ I1 q) fun us s2 ⟨vs, H2, I2, r, q2⟩ => ⟨I2.kIn, ?_⟩) hst hpl
  have q3 : sp ((.ref a :: vs) ++ []) H2 Q E0 := by rw [List.append_nil]; exact q2
  have := run_fn (us := .ref a :: us) (vs := .ref a :: vs) (ds := []) (dvs := []) F (hr.mono hj) hb .nil pass0 I2 (.cons rfl r) q3
  exact this
end
/-! ### how many True stand in a list of truths -/
def rCntB (K : PySem.W.Frag) : V → List V → Hp → VK → Prop := fun x xs H Q => ∃ (p : Addr) (bs : List Bool) (b : Bool), x = .ref p ∧ xs = [.bl b] ∧ SqL K H p (bs.map V.bl) ∧ Q (.int ((bs.countP fun y => y == b : Nat) : Int)) H
theorem dpBools {K : PySem.W.Frag} {H : Hp} : ∀ bs : List Bool, DpAll K H (bs.map V.bl) (bs.map PyData.bool)
  | [] => .nil
  | b :: r => .cons (.bl b) (dpBools r)
theorem plainBools : ∀ bs : List Bool, PyData.plainAll (bs.map PyData.bool) = true
  | [] => rfl
  | b :: r => by
    show (PyData.plain (.bool b) && PyData.plainAll (r.map PyData.bool)) = true
    rw [plainBools r]
    rfl
theorem mt_countB {X : Cx} (hu : X.A.units + 64 < cLine) : MtR X "list.count" (rCntB X.K) := by
  intro pins s σ H x xs v us Q I rx rxs h
  obtain ⟨p, bs, b, rfl, rfl, hs, q⟩ := h
  cases rx
  obtain ⟨u, rfl, ru⟩ := rxs.one
  cases ru
  obtain ⟨its, rv, hl, hlen⟩ := I.list hs
  obtain ⟨as, rs⟩ := Dp.readsAll I (bs.map PyData.bool) _ its (dpBools bs) rv
  refine SeqAt.count_list_data (as := as) (xs := bs.map PyData.bool) (d := .bool b) hl.isList (by simpa using rs) (Reads.bool b) (plainBools bs) rfl (by show X.A.units + 1 + min _ 0 < cLine; rw [Nat.min_zero]; omega) ?_
  refine ⟨.int ((bs.countP fun y => y == b : Nat) : Int), H, I.tok _, ⟨s.toks, ?_⟩, q⟩
  have e : (bs.map PyData.bool).countP (fun y => PyData.eqv y (.bool b)) = bs.countP fun y => y == b := by
    rw [List.countP_map]
    refine List.countP_congr fun y _ => ?_
    cases y <;> cases b <;> decide
  show Value.int _ s.toks = Value.int _ s.toks
  rw [e]
/-! ### what is told of a plan -/
inductive Ans where
  | good
  | lone (n c : Int)
  | twice (a b : Int)
  | never (a b : Int)
def twoB (t a b : Int) : Bool := decide (0 ≤ a ∧ a < b ∧ b < t)
def showsB (t : Int) (pl : List (List (Int × Int))) : Ans → Bool
  | .good => goodB t pl
  | .lone n c => decide (0 ≤ n ∧ n < ((pl.length : Nat) : Int)) && (decide (0 ≤ c ∧ c < t) && !decide (V.int ((cntOf (rowN pl n.toNat) c : Nat) : Int) = V.int 1))
  | .twice a b => twoB t a b && decide (1 < oftenOf pl a b)
  | .never a b => twoB t a b && decide (oftenOf pl a b = 0)
def isGoodA : Ans → Bool
  | .good => true
  | _ => false
theorem shows_good {t : Int} {pl : List (List (Int × Int))} {A : Ans} (t2 : 2 ≤ t) (hv : Valid t pl) (h : showsB t pl A = true) : goodB t pl = isGoodA A := by
  cases A with
  | good => exact h
  | lone n c =>
    cases g : goodB t pl with
    | false => rfl
    | true =>
      have G := (goodB_iff t2 hv).mp g
      simp only [showsB, Bool.and_eq_true, decide_eq_true_eq, Bool.not_eq_true', decide_eq_false_iff_not] at h
      obtain ⟨⟨n0, n1⟩, ⟨c0, c1⟩, k⟩ := h
      have hn : n.toNat < pl.length := by omega
      have e : rowN pl n.toNat = pl[n.toNat] := by
        unfold rowN
        rw [List.getElem?_eq_getElem hn]
        rfl
      rw [e, G.once _ (List.getElem_mem hn) c c0 c1] at k
      exact absurd rfl k
  | twice a b =>
    cases g : goodB t pl with
    | false => rfl
    | true =>
      have G := (goodB_iff t2 hv).mp g
      simp only [showsB, twoB, Bool.and_eq_true, decide_eq_true_eq] at h
      have := G.meet a b h.1.1 h.1.2.1 h.1.2.2
      omega
  | never a b =>
    cases g : goodB t pl with
    | false => rfl
    | true =>
      have G := (goodB_iff t2 hv).mp g
      simp only [showsB, twoB, Bool.and_eq_true, decide_eq_true_eq] at h
      have := G.meet a b h.1.1 h.1.2.1 h.1.2.2
      omega
/-- the four classes of answers -/
structure Cs where
  g : Addr
  l : Addr
  t : Addr
  n : Addr
def Cs.of (c : Cs) : Ans → Addr
  | .good => c.g
  | .lone _ _ => c.l
  | .twice _ _ => c.t
  | .never _ _ => c.n
def FldsOk : Ans → List (Str × V) → Prop
  | .good, fs => fs.lookup ("shows" : Str) = none
  | .lone n c, fs => fs.lookup ("number" : Str) = some (.int n) ∧ fs.lookup ("team" : Str) = some (.int c) ∧ fs.lookup ("shows" : Str) = none
  | .twice a b, fs => fs.lookup ("one" : Str) = some (.int a) ∧ fs.lookup ("other" : Str) = some (.int b) ∧ fs.lookup ("shows" : Str) = none
  | .never a b, fs => fs.lookup ("one" : Str) = some (.int a) ∧ fs.lookup ("other" : Str) = some (.int b) ∧ fs.lookup ("shows" : Str) = none
theorem FldsOk.shows {A : Ans} {fs : List (Str × V)} (h : FldsOk A fs) : fs.lookup ("shows" : Str) = none := by
  cases A with
  | good => exact h
  | lone n c => exact h.2.2
  | twice a b => exact h.2.2
  | never a b => exact h.2.2
def AnsAt (c : Cs) (H : Hp) (x : Addr) (A : Ans) : Prop := ∃ dx fs, H x = some (.ins (c.of A) dx fs) ∧ FldsOk A fs
theorem AnsAt.mono {c : Cs} {H H' : Hp} {x : Addr} {A : Ans} (s : Same H H') (h : AnsAt c H x A) : AnsAt c H' x A := by
  obtain ⟨dx, fs, e, k⟩ := h
  exact ⟨dx, fs, s _ _ e, k⟩
/-- what the top has made of a class whose objects are asked for their class -/
structure InsC (K : PySem.W.Frag) (C : Addr) : Prop where
  cls : Cls K C
  ha : PySem.W.findIn K (.ref C) "__class__" = some (some (.builtin "object.__class__"))
  hn : PySem.W.specialIn K (.builtin "object.__class__") "__get__" = some (some (.builtin "getset_descriptor.__get__"))
  ht : PySem.W.takesIn K (.builtin "object.__class__") = some true
  hm : PySem.W.mroIn K C (.type "object") = some true
theorem InsC.ty {K : PySem.W.Frag} {C : Addr} (c : InsC K C) {H : Hp} {a dx : Addr} {fs : List (Str × V)} (e : H a = some (.ins C dx fs)) : TyX K H (.ref a) (.ref C) := .base (.ins e c.cls c.ha c.hn c.ht c.hm)
structure AnsC (K : PySem.W.Frag) (mg : Str → Option Value) (c : Cs) : Prop where
  mG : mg "Good" = some (.ref c.g)
  mL : mg "Lone" = some (.ref c.l)
  mT : mg "Twice" = some (.ref c.t)
  mN : mg "Never" = some (.ref c.n)
  ins : ∀ A : Ans, InsC K (c.of A)
  kit : ∀ A B : Ans, PySem.W.kitOne K (.ref (c.of A)) (.ref (c.of B)) = some (match A, B with
    | .good, .good => true
    | .lone _ _, .lone _ _ => true
    | .twice _ _, .twice _ _ => true
    | .never _ _, .never _ _ => true
    | _, _ => false)
  nN : NoAttr K c.l "number"
  nT : NoAttr K c.l "team"
  nO : NoAttr K c.t "one"
  nP : NoAttr K c.t "other"
  nQ : NoAttr K c.n "one"
  nR : NoAttr K c.n "other"
/-- what judged is asked, what it tells -/
def spJudged (c : Cs) : Sp := fun vs H Q _ => ∃ (t : Int) (v : V) (pl : List (List (Int × Int))), vs = [.int t, v] ∧ TOk t ∧ t ≤ 20 ∧ LAt RowAt H v pl ∧ Valid t pl ∧ Sized pl ∧ ∀ G x A, Same H G → H x = none → AnsAt c G x A → showsB t pl A = true → Q (.ref x) G
/-- what an answer of the class C is asked, what it tells -/
def spShows (c : Cs) (C : Addr) : Sp := fun vs H Q _ => ∃ (x : Addr) (t : Int) (v : V) (pl : List (List (Int × Int))) (A : Ans), vs = [.ref x, .int t, v] ∧ AnsAt c H x A ∧ c.of A = C ∧ TOk t ∧ t ≤ 20 ∧ LAt RowAt H v pl ∧ Valid t pl ∧ Sized pl ∧ ∀ G, Same H G → Q (.bl (showsB t pl A)) G
def Shown (c : Cs) (C : Addr) (sp : Sp) : Prop := (∃ A : Ans, c.of A = C) ∧ sp = spShows c C
end EM
namespace EM
open PySem PySem.Spec PyProof.Rows L2
/-! ### the answers are made -/
abbrev i_Lone : Stmt := inClass c_Lone 0
abbrev i_Twice : Stmt := inClass c_Twice 0
abbrev i_Never : Stmt := inClass c_Never 0
/-- a method of a class of the text -/
structure MethAt (K : PySem.W.Frag) (C : Addr) (m qual : Str) (st : Stmt) (ps : List Str) : Prop where
  ex : ∃ (f : Addr) (fd : FuncData), Fun K m qual st f fd ∧ Binds K fd ps [] ∧ Meth K C m f
/-- C(..) keeps the promise, by at most level k -/
structure Makes (P : Program) (w : World) (K : PySem.W.Frag) (mg : Str → Option Value) (base : Heap) (k : Nat) (C : Addr) (sp : Sp) : Prop where
  ex : ∃ (f : Addr) (fd : FuncData) (ps : List Str), Mk K C f ∧ FnOk P w K mg base CX0 k f fd ps sp ∧ Binds K fd ps []
def spInit2 (C : Addr) (f1 f2 : Str) : Sp := fun vs H Q _ => ∃ (p dx : Addr) (y1 y2 : V), vs = [.ref p, y1, y2] ∧ H p = some (.ins C dx []) ∧ ∀ G, (∀ b o, H b = some o → b ≠ p → G b = some o) → G p = some (.ins C dx (putF f2 y2 (putF f1 y1 []))) → Q .non G
theorem made2 {C : Addr} {f1 f2 : Str} {H : Hp} {y1 y2 : V} {Q : VK} {E : XK} (h : ∀ x dx G, H x = none → Same H G → G x = some (.ins C dx (putF f2 y2 (putF f1 y1 []))) → Q (.ref x) G) :
    ∀ x dx, H x = none → H dx = none → dx ≠ x → spInit2 C f1 f2 (.ref x :: ([y1, y2] ++ [])) (upd (upd H dx (.own x)) x (.ins C dx [])) (fun v G => v = .non ∧ Q (.ref x) G) E :=
  fun x dx nx nd _ => ⟨x, dx, y1, y2, rfl, upd_same, fun G keep e => ⟨rfl, h x dx G nx (fun b o eb => keep b o (by rw [upd_ne (ne_of_none eb nx), upd_ne (ne_of_none eb nd)]; exact eb) (ne_of_none eb nx)) e⟩⟩
section
variable {X : Cx} {C : Addr} {sp : Sp} {x : Str} {k j : Nat} {e : Expr} {es : List Expr} {t : TA} {p pos : Pos}
theorem pe_mk (M : Makes X.prog X.w X.K X.mg X.base k C sp) (hr : Room j X.A) (hj : k + 1 ≤ j) (hg : Gl X x) (hm : X.mg x = some (.ref C)) (ha : PA X (e :: es) t) (hdb : (x == ("__debug__" : Str)) = false := by decide)
    (he : starEach (e :: es) X.env = (false, eval e X.env) :: starEach es X.env := by rfl) (hpl : (backTo pos (starEach es X.env)).any (·.1) = false := by rfl) : PE X (.Call (.Name x p) (e :: es) [] pos) (tMake C sp [] E0 t) := by
  obtain ⟨f, fd, ps, mk, F, b⟩ := M.ex
  exact pe_make mk F (hr.mono hj) hg hm b .nil pass0 ha hdb he hpl
end
section
variable {P : Program} {w : World} {K : PySem.W.Frag} {mg : Str → Option Value} {base : Heap}
theorem MethAt.makes {C : Addr} {qual : Str} {st : Stmt} {ps : List Str} {k : Nat} {sp : Sp} (d : MethAt K C "__init__" qual st ps) (m : PySem.W.makesIn K C = true) (kp : PySem.W.keepIn K (.ref C) = true) (F : ∀ f fd, Fun K "__init__" qual st f fd → FnOk P w K mg base CX0 k f fd ps sp) : Makes P w K mg base k C sp := by
  obtain ⟨f, fd, F0, b, M⟩ := d.ex
  exact ⟨f, fd, ps, ⟨m, M.at_, M.fn, kp⟩, F f fd F0, b⟩
theorem MethAt.serves {C : Addr} {m qual : Str} {st : Stmt} {ps : List Str} {k : Nat} {sp : Sp} (d : MethAt K C m qual st ps) (c : Cls K C) (F : ∀ f fd, Fun K m qual st f fd → FnOk P w K mg base CX0 k f fd ps sp) : Serves P w K mg base k C m sp := by
  obtain ⟨f, fd, F0, b, M⟩ := d.ex
  exact ⟨⟨f, fd, ps, M, F f fd F0, b⟩, c⟩
theorem scI_Lone : FnScope ["self", "number", "team"] ["self", "number", "team"] (defScope i_Lone) := ⟨rfl, rfl, rfl, by decide +kernel, rfl, by decide +kernel, by decide +kernel⟩
theorem ok_init_Lone {C f : Addr} {fd : FuncData} (c : Cls K C) (n1 : NoAttr K C "number") (n2 : NoAttr K C "team") (F : Fun K "__init__" "Lone.__init__" i_Lone f fd) : FnOk P w K mg base CX0 1 f fd ["self", "number", "team"] (spInit2 C "number" "team") := by
  refine F.ok scI_Lone (fun vs H Q E h => ?_) (fun cdv A outer s H vs Q E hr h => ?_)
  · obtain ⟨p, dx, y1, y2, rfl, _⟩ := h
    rfl
  · obtain ⟨p, dx, y1, y2, rfl, hp, q⟩ := h
    refine ⟨_, pss_cons (ps_fld (pv 0) (pv 1) rfl) (pss_one (ps_fld (pv 0) (pv 2) rfl)), ?_⟩
    refine ⟨y1, rfl, .ref p, rfl, p, C, dx, [], rfl, hp, c, n1, (by show 0 < 1000; decide), y2, rfl, .ref p, rfl, p, C, dx, _, rfl, upd_same, c, n2, (by show 1 < 1000; decide), ?_⟩
    refine q _ (fun b o eb nb => ?_) upd_same
    rw [upd_ne nb, upd_ne nb]
    exact eb
theorem scI_Twice : FnScope ["self", "one", "other"] ["self", "one", "other"] (defScope i_Twice) := ⟨rfl, rfl, rfl, by decide +kernel, rfl, by decide +kernel, by decide +kernel⟩
theorem ok_init_Twice {C f : Addr} {fd : FuncData} (c : Cls K C) (n1 : NoAttr K C "one") (n2 : NoAttr K C "other") (F : Fun K "__init__" "Twice.__init__" i_Twice f fd) : FnOk P w K mg base CX0 1 f fd ["self", "one", "other"] (spInit2 C "one" "other") := by
  refine F.ok scI_Twice (fun vs H Q E h => ?_) (fun cdv A outer s H vs Q E hr h => ?_)
  · obtain ⟨p, dx, y1, y2, rfl, _⟩ := h
    rfl
  · obtain ⟨p, dx, y1, y2, rfl, hp, q⟩ := h
    refine ⟨_, pss_cons (ps_fld (pv 0) (pv 1) rfl) (pss_one (ps_fld (pv 0) (pv 2) rfl)), ?_⟩
    refine ⟨y1, rfl, .ref p, rfl, p, C, dx, [], rfl, hp, c, n1, (by show 0 < 1000; decide), y2, rfl, .ref p, rfl, p, C, dx, _, rfl, upd_same, c, n2, (by show 1 < 1000; decide), ?_⟩
    refine q _ (fun b o eb nb => ?_) upd_same
    rw [upd_ne nb, upd_ne nb]
    exact eb
theorem scI_Never : FnScope ["self", "one", "other"] ["self", "one", "other"] (defScope i_Never) := ⟨rfl, rfl, rfl, by decide +kernel, rfl, by decide +kernel, by decide +kernel⟩
theorem ok_init_Never {C f : Addr} {fd : FuncData} (c : Cls K C) (n1 : NoAttr K C "one") (n2 : NoAttr K C "other") (F : Fun K "__init__" "Never.__init__" i_Never f fd) : FnOk P w K mg base CX0 1 f fd ["self", "one", "other"] (spInit2 C "one" "other") := by
  refine F.ok scI_Never (fun vs H Q E h => ?_) (fun cdv A outer s H vs Q E hr h => ?_)
  · obtain ⟨p, dx, y1, y2, rfl, _⟩ := h
    rfl
  · obtain ⟨p, dx, y1, y2, rfl, hp, q⟩ := h
    refine ⟨_, pss_cons (ps_fld (pv 0) (pv 1) rfl) (pss_one (ps_fld (pv 0) (pv 2) rfl)), ?_⟩
    refine ⟨y1, rfl, .ref p, rfl, p, C, dx, [], rfl, hp, c, n1, (by show 0 < 1000; decide), y2, rfl, .ref p, rfl, p, C, dx, _, rfl, upd_same, c, n2, (by show 1 < 1000; decide), ?_⟩
    refine q _ (fun b o eb nb => ?_) upd_same
    rw [upd_ne nb, upd_ne nb]
    exact eb
end
theorem two_flds {f1 f2 g : Str} {y1 y2 : V} (n1 : ¬ g = f1) (n2 : ¬ g = f2) : (putF f2 y2 (putF f1 y1 [])).lookup g = none := by
  rw [lookup_putF, if_neg n2, lookup_putF, if_neg n1]
  rfl
theorem fld_2 {f1 f2 : Str} {y1 y2 : V} : (putF f2 y2 (putF f1 y1 [])).lookup f2 = some y2 := by rw [lookup_putF, if_pos rfl]
theorem fld_1 {f1 f2 : Str} {y1 y2 : V} (n : ¬ f1 = f2) : (putF f2 y2 (putF f1 y1 [])).lookup f1 = some y1 := by rw [lookup_putF, if_neg n, lookup_putF, if_pos rfl]
end EM
namespace EM
open PySem PySem.Spec PyProof.Rows L2
/-- how Lone, Twice, Never are made -/
structure MkAns (P : Program) (w : World) (K : PySem.W.Frag) (mg : Str → Option Value) (base : Heap) (c : Cs) : Prop where
  l : Makes P w K mg base 1 c.l (spInit2 c.l "number" "team")
  t : Makes P w K mg base 1 c.t (spInit2 c.t "one" "other")
  n : Makes P w K mg base 1 c.n (spInit2 c.n "one" "other")
theorem flds_lone {n k : Int} : FldsOk (.lone n k) (putF "team" (.int k) (putF "number" (.int n) [])) := ⟨fld_1 (by decide +kernel), fld_2, two_flds (by decide +kernel) (by decide +kernel)⟩
theorem flds_two {a b : Int} : FldsOk (.twice a b) (putF "other" (.int b) (putF "one" (.int a) [])) := ⟨fld_1 (by decide +kernel), fld_2, two_flds (by decide +kernel) (by decide +kernel)⟩
theorem flds_never {a b : Int} : FldsOk (.never a b) (putF "other" (.int b) (putF "one" (.int a) [])) := ⟨fld_1 (by decide +kernel), fld_2, two_flds (by decide +kernel) (by decide +kernel)⟩
end EM
namespace EM
open PySem PySem.Spec PyProof.Rows L2
abbrev s_Good : Stmt := inClass c_Good 0
abbrev s_Lone : Stmt := inClass c_Lone 1
abbrev s_Twice : Stmt := inClass c_Twice 1
abbrev s_Never : Stmt := inClass c_Never 1
theorem scAllOne : FnScope ["counts", "many"] ["counts"] (defScope t__all_one) := ⟨rfl, rfl, rfl, by decide +kernel, rfl, by decide +kernel, by decide +kernel⟩
theorem scAreTwo : FnScope ["teams", "one", "other"] ["teams", "one", "other"] (defScope t__are_two) := ⟨rfl, rfl, rfl, by decide +kernel, rfl, by decide +kernel, by decide +kernel⟩
theorem scShG : FnScope ["self", "teams", "plan", "pairs", "counts"] ["self", "teams", "plan"] (defScope s_Good) := ⟨rfl, rfl, rfl, by decide +kernel, rfl, by decide +kernel, by decide +kernel⟩
theorem scShL : FnScope ["self", "teams", "plan", "counts"] ["self", "teams", "plan"] (defScope s_Lone) := ⟨rfl, rfl, rfl, by decide +kernel, rfl, by decide +kernel, by decide +kernel⟩
theorem scShT : FnScope ["self", "teams", "plan", "counts"] ["self", "teams", "plan"] (defScope s_Twice) := ⟨rfl, rfl, rfl, by decide +kernel, rfl, by decide +kernel, by decide +kernel⟩
theorem scShN : FnScope ["self", "teams", "plan", "counts"] ["self", "teams", "plan"] (defScope s_Never) := ⟨rfl, rfl, rfl, by decide +kernel, rfl, by decide +kernel, by decide +kernel⟩
/-! which class an answer has -/
section
variable {K : PySem.W.Frag} {mg : Str → Option Value} {c : Cs} {A : Ans}
theorem of_good (Z : AnsC K mg c) (e : c.of A = c.g) : A = .good := by
  have h1 := Z.kit A .good
  rw [e] at h1
  have h2 := h1.symm.trans (Z.kit .good .good)
  cases A with
  | good => rfl
  | _ => cases h2
theorem of_lone (Z : AnsC K mg c) (e : c.of A = c.l) : ∃ n k, A = .lone n k := by
  have h1 := Z.kit A (.lone 0 0)
  rw [e] at h1
  have h2 := h1.symm.trans (Z.kit (.lone 0 0) (.lone 0 0))
  cases A with
  | lone n k => exact ⟨n, k, rfl⟩
  | _ => cases h2
theorem of_twice (Z : AnsC K mg c) (e : c.of A = c.t) : ∃ a b, A = .twice a b := by
  have h1 := Z.kit A (.twice 0 0)
  rw [e] at h1
  have h2 := h1.symm.trans (Z.kit (.twice 0 0) (.twice 0 0))
  cases A with
  | twice n k => exact ⟨n, k, rfl⟩
  | _ => cases h2
theorem of_never (Z : AnsC K mg c) (e : c.of A = c.n) : ∃ a b, A = .never a b := by
  have h1 := Z.kit A (.never 0 0)
  rw [e] at h1
  have h2 := h1.symm.trans (Z.kit (.never 0 0) (.never 0 0))
  cases A with
  | never n k => exact ⟨n, k, rfl⟩
  | _ => cases h2
end
/-- all of them 1 -/
def oneB (ns : List Int) : Bool := ns.all fun z => decide (V.int z = V.int 1)
theorem oneB_iff {ns : List Int} : oneB ns = true ↔ ∀ z ∈ ns, z = 1 := by
  unfold oneB
  rw [List.all_eq_true]
  exact ⟨fun h z hz => V.int.inj (of_decide_eq_true (h z hz)), fun h z hz => decide_eq_true (congrArg V.int (h z hz))⟩
def eachN (t : Int) (row : List (Int × Int)) : List Int := (List.range t.toNat).map fun (c : Nat) => ((cntOf row (c : Int) : Nat) : Int)
theorem each_ints (t : Int) (row : List (Int × Int)) : eachOf t row = (eachN t row).map V.int := by
  unfold eachOf eachL eachN
  rw [List.map_map]
  rfl
theorem one_row {t : Int} {row : List (Int × Int)} : oneB (eachN t row) = true ↔ ∀ k : Int, 0 ≤ k → k < t → cntOf row k = 1 := by
  rw [oneB_iff]
  unfold eachN
  constructor
  · intro h k k0 k1
    have := h ((cntOf row ((k.toNat : Nat) : Int) : Nat) : Int) (List.mem_map.mpr ⟨k.toNat, List.mem_range.mpr (by omega), rfl⟩)
    rw [show ((k.toNat : Nat) : Int) = k by omega] at this
    omega
  · intro h z hz
    obtain ⟨c, hc, rfl⟩ := List.mem_map.mp hz
    have := List.mem_range.mp hc
    rw [h (c : Int) (by omega) (by omega)]
    rfl
def twoN (t : Int) (pl : List (List (Int × Int))) : List Int := (twos t.toNat).map fun k => ((cntK (keysOf pl) k : Nat) : Int)
theorem two_ints (t : Int) (pl : List (List (Int × Int))) : (tab (twos t.toNat) (keysOf pl)).map (·.2) = (twoN t pl).map V.int := by
  unfold tab twoN
  rw [List.map_map, List.map_map]
  rfl
theorem one_two {t : Int} {pl : List (List (Int × Int))} (hv : Valid t pl) : oneB (twoN t pl) = true ↔ ∀ a b : Int, 0 ≤ a → a < b → b < t → oftenOf pl a b = 1 := by
  rw [oneB_iff]
  unfold twoN
  constructor
  · intro h a b a0 ab bt
    rw [often_count hv ab]
    have := h _ (List.mem_map.mpr ⟨[Sum.inl a, Sum.inl b], two_in a0 ab (by omega), rfl⟩)
    omega
  · intro h z hz
    obtain ⟨k, hk, rfl⟩ := List.mem_map.mp hz
    obtain ⟨n1, n2, _, h12, h2t, rfl⟩ := mem_twosTo.mp hk
    rw [← often_count hv (show (n1 : Int) < (n2 : Int) by omega), h _ _ (by omega) (by omega) (by omega)]
    rfl
section
variable {P : Program} {w : World} {K : PySem.W.Frag} {mg : Str → Option Value} {base : Heap}
def spAllOne : Sp := fun vs H Q _ => ∃ (a : Addr) (ns : List Int), vs = [.ref a] ∧ H a = some (.lst (ns.map V.int)) ∧ ns.length ≤ 900 ∧ ∀ G, Same H G → Q (.bl (oneB ns)) G
theorem fn_allOne (d : DefAt K mg "_all_one" t__all_one ["counts"]) (N : Names mg) : Fn P w K mg base "_all_one" ["counts"] 1 spAllOne := by
  refine d.fn scAllOne (fun vs H Q E h => ?_) (fun f cdv A outer s H vs Q E hr h => ?_)
  · obtain ⟨a, ns, rfl, _⟩ := h
    rfl
  · obtain ⟨a, ns, rfl, ea, le, q⟩ := h
    refine ⟨_, pss_one (ps_ret (pe_callB (cr_all rfl) (by rfl) N.all boot_all (pa_cons
      (pe_lc (own := [("many", 1)]) (g := gName 1) (tt := tYes) rfl scAllOne.nd (pi_list (pv 0)) (blkOk_by (N := ["counts", "many"]) (sc := defScope t__all_one) (by decide +kernel))
        (fun _ _ _ _ _ => pg_name (i := 1) scAllOne.nd rfl (Or.inl rfl)) (fun _ _ _ _ _ => pts_nil) (fun _ _ _ _ _ => pe_cmpR op_eq (pv 1) pe_int (nomark _))) pa_nil))), ?_⟩
    refine ⟨.ref a, rfl, a, rfl, ⟨_, SqL.of ea⟩, fun D nD => lc_list (K := K) (a := a) (xs := ns.map V.int) (fun i G => Same H G ∧ G D = some (.lst (((ns.take i).map fun z => decide (V.int z = V.int 1)).map V.bl))) ⟨same_upd nD, upd_same⟩ (fun i G _ h => SqL.of (h.1 _ _ ea)) ?_ ?_⟩
    · rintro i x G hx ⟨s1, e1⟩
      rw [List.getElem?_map] at hx
      obtain ⟨z, hz, rfl⟩ := Option.map_eq_some_iff.mp hx
      refine ⟨rfl, .int z, rfl, rfl, _, e1, ?_, same_push nD s1, ?_⟩
      · rw [List.length_map, List.length_map, List.length_take]
        exact small1000 (by omega)
      · rw [upd_same, take_snoc hz, List.map_append, List.map_append]
        rfl
    · rintro G ⟨s1, e1⟩
      rw [List.length_map, List.take_length] at e1
      refine ⟨D, _, rfl, SqL.of e1, ?_⟩
      rw [List.all_map]
      exact q G s1
def spAreTwo : Sp := fun vs H Q _ => ∃ t a b : Int, vs = [.int t, .int a, .int b] ∧ Q (.bl (twoB t a b)) H
theorem fn_areTwo (d : DefAt K mg "_are_two" t__are_two ["teams", "one", "other"]) (F : Fn P w K mg base "is_counted" ["many", "value"] 2 spCnt) : Fn P w K mg base "_are_two" ["teams", "one", "other"] 3 spAreTwo := by
  refine d.fn scAreTwo (fun vs H Q E h => ?_) (fun f cdv A outer s H vs Q E hr h => ?_)
  · obtain ⟨t, a, b, rfl, _⟩ := h
    rfl
  · obtain ⟨t, a, b, rfl, q⟩ := h
    refine ⟨_, pss_one (ps_ret (pe_and (pe_f F hr (by decide) (by rfl) (pa_cons (pv 0) (pa_cons (pv 1) pa_nil))) (pe_and (pe_f F hr (by decide) (by rfl) (pa_cons (pv 0) (pa_cons (pv 2) pa_nil))) (pe_one (pe_cmpR op_lt (pv 1) (pv 2) (nomark _)))))), ?_⟩
    unfold twoB at q
    refine ⟨.int t, rfl, .int a, rfl, t, a, rfl, _, rfl, ite2 (fun h1 => ?_) (fun h1 => ?_)⟩
    · have h1 := of_decide_eq_true h1
      refine ⟨.int t, rfl, .int b, rfl, t, b, rfl, _, rfl, ite2 (fun h2 => ?_) (fun h2 => ?_)⟩
      · have h2 := of_decide_eq_true h2
        refine ⟨.int a, rfl, .int b, rfl, a, b, rfl, rfl, ?_⟩
        have e : decide (0 ≤ a ∧ a < b ∧ b < t) = decide (a < b) := decide_eq_decide.mpr ⟨fun h => h.2.1, fun h => ⟨h1.1, h, h2.2⟩⟩
        rw [e] at q
        exact q
      · rw [decide_eq_false fun z => h2 (decide_eq_true ⟨by omega, z.2.2⟩)] at q
        exact q
    · rw [decide_eq_false fun z => h1 (decide_eq_true ⟨z.1, by omega⟩)] at q
      exact q
theorem ok_showsG {c : Cs} {f : Addr} {fd : FuncData} (Z : AnsC K mg c) (N : Names mg) (Z2 : mg "list" = none) (Fe : Fn P w K mg base "pairs_of_each" ["teams", "pairs"] 1 spEach) (Ft : Fn P w K mg base "pairs_of_two" ["teams", "plan"] 1 spTwo) (Fa : Fn P w K mg base "_all_one" ["counts"] 1 spAllOne)
    (F : Fun K "shows" "Good.shows" s_Good f fd) : FnOk P w K mg base CX0 4 f fd ["self", "teams", "plan"] (spShows c c.g) := by
  refine F.ok scShG (fun vs H Q E h => ?_) (fun cdv A0 outer s H vs Q E hr h => ?_)
  · obtain ⟨x, t, v, pl, A, rfl, _⟩ := h
    rfl
  · obtain ⟨x, t, v, pl, A, rfl, _, eA, T, t20, hP, hv, hs, q⟩ := h
    cases of_good Z eA
    have t2 := T.two
    refine ⟨_, pss_cons (ps_for PassesOwn.never rfl (pi_list (pv 2)) (pg_name (i := 3) scShG.nd rfl (.inl rfl))
        (pss_one (ps_if (pt_not (pt_val (pe_f Fa hr (by decide) (by rfl) (pa_cons (pe_f Fe hr (by decide) (by rfl) (pa_cons (pv 1) (pa_cons (pv 3) pa_nil))) pa_nil)))) (pss_one (ps_ret pe_bl)) pss_nil)))
      (pss_cons (ps_set (i := 4) scShG.nd rfl (.inl rfl) (pe_f Ft hr (by decide) (by rfl) (pa_cons (pv 1) (pa_cons (pv 2) pa_nil))))
      (pss_one (ps_ret (pe_f Fa hr (by decide) (by rfl) (pa_cons (pe_listValsT rfl (pv 4) (by rfl) Z2 boot_list) pa_nil))))), ?_⟩
    obtain ⟨a, us, rfl, ea, au⟩ := hP
    refine ⟨.ref a, rfl, a, rfl, ⟨_, SqL.of ea⟩, for_list (K := K) (a := a) (xs := us) (fun i σ G => ∃ y3, σ = [some (.ref x), some (.int t), some (.ref a), y3, none] ∧ Same H G ∧ ∀ row ∈ pl.take i, ∀ k : Int, 0 ≤ k → k < t → cntOf row k = 1)
      ⟨_, rfl, Same.refl H, fun _ h => absurd h (by simp)⟩ (fun i σ G _ ⟨_, _, h, _⟩ => SqL.of (h _ _ ea)) ?_ ?_⟩
    · rintro i y σ G hy ⟨y3, rfl, s1, once⟩
      obtain ⟨row, hrow, ra⟩ := au.at hy
      have hm := List.mem_of_getElem? hrow
      refine ⟨.int t, rfl, y, rfl, t, y, row, rfl, t2, t20, ra.mono s1, hv row hm, fun G2 D s2 nD eD => ?_⟩
      rw [each_ints] at eD
      refine ⟨D, _, rfl, eD, ?_, fun G3 s3 => ⟨_, rfl, ?_⟩⟩
      · unfold eachN
        rw [List.length_map, List.length_range]
        omega
      have s4 := (s1.trans s2).trans s3
      cases e : oneB (eachN t row) with
      | false =>
        refine iteT ?_
        have : goodB t pl = false := by
          cases g : goodB t pl with
          | false => rfl
          | true =>
            have := one_row.mpr (((goodB_iff t2 hv).mp g).once row hm)
            rw [e] at this
            cases this
        have q := q G3 s4
        rw [show showsB t pl .good = goodB t pl from rfl, this] at q
        exact q
      | true =>
        refine iteF ⟨_, rfl, s4, fun r hr => ?_⟩
        rw [take_snoc hrow] at hr
        rcases List.mem_append.mp hr with h | h
        · exact once r h
        · rw [List.mem_singleton.mp h]
          exact one_row.mp e
    · rintro σ G ⟨y3, rfl, s1, once⟩
      rw [au.len, List.take_length] at once
      refine ⟨.int t, rfl, .ref a, rfl, t, .ref a, pl, rfl, t2, t20, ⟨a, us, rfl, s1 _ _ ea, All2.up monRow au s1⟩, hv, fun G2 D s2 nD eD => ?_⟩
      refine ⟨.ref D, rfl, D, _, rfl, eD, fun L nL => ?_⟩
      rw [two_ints]
      refine ⟨L, _, rfl, upd_same, ?_, fun G3 s3 => ?_⟩
      · unfold twoN
        rw [List.length_map]
        exact Nat.le_trans (Nat.le_trans (twosTo_len _ _) (Nat.mul_le_mul (show t.toNat ≤ 20 by omega) (show t.toNat ≤ 20 by omega))) (by decide)
      have eg : oneB (twoN t pl) = goodB t pl := by
        rw [Bool.eq_iff_iff, one_two hv, goodB_iff t2 hv]
        exact ⟨fun h => ⟨once, h⟩, fun h => h.meet⟩
      rw [eg]
      exact q G3 (((s1.trans s2).trans (same_upd nL)).trans s3)
theorem ok_showsL {c : Cs} {f : Addr} {fd : FuncData} (Z : AnsC K mg c) (N : Names mg) (Fe : Fn P w K mg base "pairs_of_each" ["teams", "pairs"] 1 spEach) (Fc : Fn P w K mg base "is_counted" ["many", "value"] 2 spCnt)
    (F : Fun K "shows" "Lone.shows" s_Lone f fd) : FnOk P w K mg base CX0 4 f fd ["self", "teams", "plan"] (spShows c c.l) := by
  refine F.ok scShL (fun vs H Q E h => ?_) (fun cdv A0 outer s H vs Q E hr h => ?_)
  · obtain ⟨x, t, v, pl, A, rfl, _⟩ := h
    rfl
  · obtain ⟨x, t, v, pl, A, rfl, ⟨dx, fs, ex, fk⟩, eA, T, t20, hP, hv, hs, q⟩ := h
    obtain ⟨n, k, rfl⟩ := of_lone Z eA
    obtain ⟨f1, f2, f3⟩ := fk
    have t2 := T.two
    have cl := (Z.ins (.lone n k)).cls
    refine ⟨_, pss_cons (ps_if (PW.pt (pw_or (pt_not (pt_val (pe_f Fc hr (by decide) (by rfl) (pa_cons (pe_callB call_len_seq (by rfl) N.len PySem.boot_len (pa_cons (pv 2) pa_nil)) (pa_cons (pe_fld (pv 0) rfl) pa_nil)))))
        (pw_or1 (pt_not (pt_val (pe_f Fc hr (by decide) (by rfl) (pa_cons (pv 1) (pa_cons (pe_fld (pv 0) rfl) pa_nil)))))))) (pss_one (ps_ret pe_bl)) pss_nil)
      (pss_cons (ps_set (i := 3) scShL.nd rfl (.inl rfl) (pe_f Fe hr (by decide) (by rfl) (pa_cons (pv 1) (pa_cons (pe_ix ix_list (pv 2) (pe_fld (pv 0) rfl) (fun _ _ => rfl)) pa_nil))))
      (pss_one (ps_ret (pe_cmpR op_ne (pe_ix ix_list (pv 3) (pe_fld (pv 0) rfl) (fun _ _ => rfl)) pe_int (nomark _))))), ?_⟩
    obtain ⟨a, us, rfl, ea, au⟩ := hP
    have ul := au.len
    have q0 := q H (Same.refl H)
    have no : (¬ (0 ≤ n ∧ n < ((pl.length : Nat) : Int)) ∨ ¬ (0 ≤ k ∧ k < t)) → Q (.bl false) H := fun z => by
      have e : showsB t pl (.lone n k) = false := by
        show (decide (0 ≤ n ∧ n < ((pl.length : Nat) : Int)) && (decide (0 ≤ k ∧ k < t) && _)) = false
        rcases z with z | z
        · rw [decide_eq_false z, Bool.false_and]
        · rw [decide_eq_false z, Bool.false_and, Bool.and_false]
      rw [e] at q0
      exact q0
    refine ⟨.ref a, rfl, a, us, rfl, .inl (SqL.of ea), .ref x, rfl, x, c.l, dx, fs, _, rfl, ex, cl, Z.nN, f1, _, n, rfl, _, rfl, ?_⟩
    rw [ul]
    by_cases h1 : 0 ≤ n ∧ n < ((pl.length : Nat) : Int)
    · rw [decide_eq_true h1]
      refine iteF ⟨.int t, rfl, .ref x, rfl, x, c.l, dx, fs, _, rfl, ex, cl, Z.nT, f2, t, k, rfl, _, rfl, ?_⟩
      by_cases h2 : 0 ≤ k ∧ k < t
      · rw [decide_eq_true h2]
        obtain ⟨m, rfl⟩ : ∃ m : Nat, n = (m : Int) := ⟨n.toNat, by omega⟩
        obtain ⟨j, rfl⟩ : ∃ j : Nat, k = (j : Int) := ⟨k.toNat, by omega⟩
        have hm : m < pl.length := by omega
        have hrow : pl[m]? = some pl[m] := List.getElem?_eq_getElem hm
        obtain ⟨y, ey, ra⟩ := au.at' hrow
        refine iteF ⟨.int t, rfl, .ref a, rfl, .ref x, rfl, x, c.l, dx, fs, _, rfl, ex, cl, Z.nN, f1, a, us, (m : Int), y, rfl, rfl, SqL.of ea, atI_nat ey, ?_⟩
        refine ⟨t, y, pl[m], rfl, t2, t20, ra, hv _ (List.getElem_mem hm), fun G D s1 nD eD => ?_⟩
        have ex1 := s1 _ _ ex
        refine ⟨.ref D, rfl, .ref x, rfl, x, c.l, dx, fs, _, rfl, ex1, cl, Z.nT, f2, D, _, (j : Int), _, rfl, rfl, SqL.of eD, atI_nat (at_each (show j < t.toNat by omega)), rfl, ?_⟩
        have e : showsB t pl (.lone (m : Int) (j : Int)) = !decide (V.int ((cntOf pl[m] (j : Int) : Nat) : Int) = V.int 1) := by
          show (decide (0 ≤ (m : Int) ∧ (m : Int) < ((pl.length : Nat) : Int)) && (decide (0 ≤ (j : Int) ∧ (j : Int) < t) && !decide (V.int ((cntOf (rowN pl ((m : Int)).toNat) (j : Int) : Nat) : Int) = V.int 1))) = _
          have er : rowN pl ((m : Int)).toNat = pl[m] := by
            unfold rowN
            rw [Int.toNat_natCast, hrow]
            rfl
          rw [er, decide_eq_true h1, decide_eq_true h2]
          rfl
        have := q G s1
        rw [e] at this
        exact this
      · rw [decide_eq_false h2]
        exact iteT (no (.inr h2))
    · rw [decide_eq_false h1]
      exact iteT (no (.inl h1))
theorem ok_showsT {c : Cs} {f : Addr} {fd : FuncData} (Z : AnsC K mg c) (Ft : Fn P w K mg base "pairs_of_two" ["teams", "plan"] 1 spTwo) (F2 : Fn P w K mg base "_are_two" ["teams", "one", "other"] 3 spAreTwo)
    (F : Fun K "shows" "Twice.shows" s_Twice f fd) : FnOk P w K mg base CX0 4 f fd ["self", "teams", "plan"] (spShows c c.t) := by
  refine F.ok scShT (fun vs H Q E h => ?_) (fun cdv A0 outer s H vs Q E hr h => ?_)
  · obtain ⟨x, t, v, pl, A, rfl, _⟩ := h
    rfl
  · obtain ⟨x, t, v, pl, A, rfl, ⟨dx, fs, ex, fk⟩, eA, T, t20, hP, hv, hs, q⟩ := h
    obtain ⟨m, n, rfl⟩ := of_twice Z eA
    obtain ⟨f1, f2, f3⟩ := fk
    have t2 := T.two
    have cl := (Z.ins (.twice m n)).cls
    refine ⟨_, pss_cons (ps_if (pt_not (pt_val (pe_f F2 hr (by decide) (by rfl) (pa_cons (pv 1) (pa_cons (pe_fld (pv 0) rfl) (pa_cons (pe_fld (pv 0) rfl) pa_nil)))))) (pss_one (ps_ret pe_bl)) pss_nil)
      (pss_cons (ps_set (i := 3) scShT.nd rfl (.inl rfl) (pe_f Ft hr (by decide) (by rfl) (pa_cons (pv 1) (pa_cons (pv 2) pa_nil))))
      (pss_one (ps_ret (pe_cmpR op_gt (pe_dget (hu_of hr) (pv 3) (pe_tup (pa_cons (pe_fld (pv 0) rfl) (pa_cons (pe_fld (pv 0) rfl) pa_nil))) (fun _ _ => rfl)) pe_int (nomark _))))), ?_⟩
    refine ⟨.int t, rfl, .ref x, rfl, x, c.t, dx, fs, _, rfl, ex, cl, Z.nO, f1, .ref x, rfl, x, c.t, dx, fs, _, rfl, ex, cl, Z.nP, f2, t, m, n, rfl, _, rfl, ?_⟩
    cases h : twoB t m n with
    | false =>
      refine iteT ?_
      have e : showsB t pl (.twice m n) = false := by
        show (twoB t m n && _) = false
        rw [h, Bool.false_and]
      have q := q H (Same.refl H)
      rw [e] at q
      exact q
    | true =>
      have b : 0 ≤ m ∧ m < n ∧ n < t := of_decide_eq_true h
      refine iteF ⟨.int t, rfl, v, rfl, t, v, pl, rfl, t2, t20, hP, hv, fun G D s1 nD eD => ?_⟩
      have ex1 := s1 _ _ ex
      refine ⟨.ref D, rfl, .ref x, rfl, x, c.t, dx, fs, _, rfl, ex1, cl, Z.nO, f1, .ref x, rfl, x, c.t, dx, fs, _, rfl, ex1, cl, Z.nP, f2, by show 2 ≤ sizeLine; decide, fun T0 nT => ?_⟩
      have s2 := same_upd (o := .tup [.int m, .int n]) nT
      have inn : [Sum.inl m, Sum.inl n] ∈ twos t.toNat := two_in b.1 b.2.1 (by omega)
      refine ⟨D, _, rfl, by rw [← tab_val inn]; exact DGet.t (k := [Sum.inl m, Sum.inl n]) (s2 _ _ eD) upd_same, ?_⟩
      have q := q _ (s1.trans s2)
      have e : showsB t pl (.twice m n) = decide (((cntK (keysOf pl) [Sum.inl m, Sum.inl n] : Nat) : Int) > 1) := by
        show (twoB t m n && _) = _
        rw [h, Bool.true_and, often_count hv b.2.1]
        exact decide_eq_decide.mpr ⟨fun z => by omega, fun z => by omega⟩
      rw [e] at q
      exact ⟨_, 1, rfl, rfl, q⟩
theorem ok_showsN {c : Cs} {f : Addr} {fd : FuncData} (Z : AnsC K mg c) (Ft : Fn P w K mg base "pairs_of_two" ["teams", "plan"] 1 spTwo) (F2 : Fn P w K mg base "_are_two" ["teams", "one", "other"] 3 spAreTwo)
    (F : Fun K "shows" "Never.shows" s_Never f fd) : FnOk P w K mg base CX0 4 f fd ["self", "teams", "plan"] (spShows c c.n) := by
  refine F.ok scShN (fun vs H Q E h => ?_) (fun cdv A0 outer s H vs Q E hr h => ?_)
  · obtain ⟨x, t, v, pl, A, rfl, _⟩ := h
    rfl
  · obtain ⟨x, t, v, pl, A, rfl, ⟨dx, fs, ex, fk⟩, eA, T, t20, hP, hv, hs, q⟩ := h
    obtain ⟨m, n, rfl⟩ := of_never Z eA
    obtain ⟨f1, f2, f3⟩ := fk
    have t2 := T.two
    have cl := (Z.ins (.never m n)).cls
    refine ⟨_, pss_cons (ps_if (pt_not (pt_val (pe_f F2 hr (by decide) (by rfl) (pa_cons (pv 1) (pa_cons (pe_fld (pv 0) rfl) (pa_cons (pe_fld (pv 0) rfl) pa_nil)))))) (pss_one (ps_ret pe_bl)) pss_nil)
      (pss_cons (ps_set (i := 3) scShN.nd rfl (.inl rfl) (pe_f Ft hr (by decide) (by rfl) (pa_cons (pv 1) (pa_cons (pv 2) pa_nil))))
      (pss_one (ps_ret (pe_cmpR op_eq (pe_dget (hu_of hr) (pv 3) (pe_tup (pa_cons (pe_fld (pv 0) rfl) (pa_cons (pe_fld (pv 0) rfl) pa_nil))) (fun _ _ => rfl)) pe_int (nomark _))))), ?_⟩
    refine ⟨.int t, rfl, .ref x, rfl, x, c.n, dx, fs, _, rfl, ex, cl, Z.nQ, f1, .ref x, rfl, x, c.n, dx, fs, _, rfl, ex, cl, Z.nR, f2, t, m, n, rfl, _, rfl, ?_⟩
    cases h : twoB t m n with
    | false =>
      refine iteT ?_
      have e : showsB t pl (.never m n) = false := by
        show (twoB t m n && _) = false
        rw [h, Bool.false_and]
      have q := q H (Same.refl H)
      rw [e] at q
      exact q
    | true =>
      have b : 0 ≤ m ∧ m < n ∧ n < t := of_decide_eq_true h
      refine iteF ⟨.int t, rfl, v, rfl, t, v, pl, rfl, t2, t20, hP, hv, fun G D s1 nD eD => ?_⟩
      have ex1 := s1 _ _ ex
      refine ⟨.ref D, rfl, .ref x, rfl, x, c.n, dx, fs, _, rfl, ex1, cl, Z.nQ, f1, .ref x, rfl, x, c.n, dx, fs, _, rfl, ex1, cl, Z.nR, f2, by show 2 ≤ sizeLine; decide, fun T0 nT => ?_⟩
      have s2 := same_upd (o := .tup [.int m, .int n]) nT
      have inn : [Sum.inl m, Sum.inl n] ∈ twos t.toNat := two_in b.1 b.2.1 (by omega)
      refine ⟨D, _, rfl, by rw [← tab_val inn]; exact DGet.t (k := [Sum.inl m, Sum.inl n]) (s2 _ _ eD) upd_same, ?_⟩
      have q := q _ (s1.trans s2)
      have e : showsB t pl (.never m n) = decide (V.int ((cntK (keysOf pl) [Sum.inl m, Sum.inl n] : Nat) : Int) = V.int 0) := by
        show (twoB t m n && _) = _
        rw [h, Bool.true_and, often_count hv b.2.1]
        exact decide_eq_decide.mpr ⟨fun z => by rw [z]; rfl, fun z => by have := V.int.inj z; omega⟩
      rw [e] at q
      exact ⟨rfl, q⟩
end
end EM
namespace EM
open PySem PySem.Spec PyProof.Rows L2
/-! ### plans as written data; what is asked of the program about good plans -/
def pairD (p : Int × Int) : PyData := .tuple [.int p.1, .int p.2]
def rowD (row : List (Int × Int)) : PyData := .list (row.map pairD)
def planD (pl : List (List (Int × Int))) : PyData := .list (pl.map rowD)
theorem PairAt.dp {K : PySem.W.Frag} {H : Hp} {v : V} {p : Int × Int} (h : PairAt H v p) : Dp K H v (pairD p) := by
  obtain ⟨q, rfl, e⟩ := h
  exact .tup (SqT.of e) (.cons (.int _) (.cons (.int _) .nil))
theorem dpAll_of {K : PySem.W.Frag} {H : Hp} {β : Type} {R : V → β → Prop} {f : β → PyData} (g : ∀ v x, R v x → Dp K H v (f x)) : ∀ {vs : List V} {xs : List β}, All2 R vs xs → DpAll K H vs (xs.map f)
  | _, _, .nil => .nil
  | _, _, .cons r k => .cons (g _ _ r) (dpAll_of g k)
theorem RowAt.dp {K : PySem.W.Frag} {H : Hp} {v : V} {row : List (Int × Int)} (h : RowAt H v row) : Dp K H v (rowD row) := by
  obtain ⟨q, vs, rfl, e, k⟩ := h
  exact .lst (SqL.of e) (dpAll_of (f := pairD) (fun _ _ => PairAt.dp) k)
theorem plan_dp {K : PySem.W.Frag} {H : Hp} {v : V} {pl : List (List (Int × Int))} (h : LAt RowAt H v pl) : Dp K H v (planD pl) := by
  obtain ⟨q, vs, rfl, e, k⟩ := h
  exact .lst (SqL.of e) (dpAll_of (f := rowD) (fun _ _ => RowAt.dp) k)
theorem lay_all {β : Type} {f : β → PyData} (h : ∀ x, (f x).canLay0 = true) : ∀ l : List β, PyData.canLayAll0 (l.map f) = true
  | [] => rfl
  | x :: l => by
    show (PyData.canLay0 (f x) && PyData.canLayAll0 (l.map f)) = true
    rw [h x, lay_all h l]
    rfl
theorem deep_all {β : Type} {f : β → PyData} {n : Nat} (h : ∀ x, (f x).depth ≤ n) : ∀ l : List β, PyData.depthAll (l.map f) ≤ n
  | [] => Nat.zero_le _
  | x :: l => by
    show max (PyData.depth (f x)) (PyData.depthAll (l.map f)) ≤ n
    exact Nat.max_le.mpr ⟨h x, deep_all h l⟩
theorem deep_row (row : List (Int × Int)) : (rowD row).depth ≤ 5 := by
  have := deep_all (f := pairD) (n := 4) (fun p => by show max 0 (max 0 0) + 1 ≤ 4; decide) row
  show PyData.depthAll (row.map pairD) + 1 ≤ 5
  omega
theorem lay_row (row : List (Int × Int)) : (rowD row).canLay0 = true := lay_all (f := pairD) (fun _ => rfl) row
theorem shaped_row (row : List (Int × Int)) : SeqAt.shaped (rowD row) = true := by
  unfold SeqAt.shaped
  rw [Bool.and_eq_true, decide_eq_true_eq]
  exact ⟨lay_row row, Nat.le_trans (deep_row row) (by decide)⟩
theorem shaped_plan (pl : List (List (Int × Int))) : SeqAt.shaped (planD pl) = true := by
  unfold SeqAt.shaped
  rw [Bool.and_eq_true, decide_eq_true_eq]
  have := deep_all (f := rowD) deep_row pl
  exact ⟨lay_all (f := rowD) lay_row pl, by show PyData.depthAll (pl.map rowD) + 1 ≤ 64; omega⟩
def spBreaksOk : Sp := fun vs H Q _ => ∃ (t : Int) (v : V) (pl : List (List (Int × Int))), vs = [.int t, v] ∧ TOk t ∧ t ≤ 20 ∧ LAt RowAt H v pl ∧ Valid t pl ∧ Sized pl ∧ goodB t pl = true ∧ ∀ G p, Same H G → H p = none → RowAt G (.ref p) (breaksOf t pl) → Q (.ref p) G
end EM
namespace EM
open PySem PySem.Spec PyProof.Rows L2
theorem scOpponent : FnScope ["teams", "team", "number", "last"] ["teams", "team", "number"] (defScope t_opponent) := ⟨rfl, rfl, rfl, by decide +kernel, rfl, by decide +kernel, by decide +kernel⟩
theorem scAtHome : FnScope ["teams", "team", "number", "last"] ["teams", "team", "number"] (defScope t_at_home) := ⟨rfl, rfl, rfl, by decide +kernel, rfl, by decide +kernel, by decide +kernel⟩
section
variable {P : Program} {w : World} {K : PySem.W.Frag} {mg : Str → Option Value} {base : Heap}
/-! ### opponent, at_home, round_of -/
def spOpp : Sp := fun vs H Q _ => ∃ t a r : Int, vs = [.int t, .int a, .int r] ∧ TOk t ∧ 0 ≤ a ∧ a < t ∧ 0 ≤ r ∧ r < t - 1 ∧ Q (.int (opp t a r)) H
theorem fn_opponent (d : DefAt K mg "opponent" t_opponent ["teams", "team", "number"]) (F : Fn P w K mg base "_check_team_in_round" ["teams", "team", "number"] 4 spTR) : Fn P w K mg base "opponent" ["teams", "team", "number"] 5 spOpp := by
  refine d.fn scOpponent (fun vs H Q E h => ?_) (fun f cdv A outer s H vs Q E hr h => ?_)
  · obtain ⟨t, a, r, rfl, _⟩ := h
    rfl
  · obtain ⟨t, a, r, rfl, T, a0, a1, r0, r1, q⟩ := h
    have := T.two
    refine ⟨_, pss_cons (ps_expr (pe_f F hr (by decide) (by rfl) (pa_cons (pv 0) (pa_cons (pv 1) (pa_cons (pv 2) pa_nil)))))
      (pss_cons (ps_set (i := 3) scOpponent.nd rfl (.inl rfl) (pe_op op_sub (pv 0) pe_int))
      (pss_cons (ps_if (pt_cmpR op_eq (pv 1) (pv 3) (nomark _)) (pss_one (ps_ret (pv 2))) pss_nil)
      (pss_cons (ps_if (pt_cmpR op_eq (pv 1) (pv 2) (nomark _)) (pss_one (ps_ret (pv 3))) pss_nil)
      (pss_one (ps_ret (pe_op op_mod (pe_op op_sub (pe_op op_mul pe_int (pv 2)) (pv 1)) (pv 3))))))), ?_⟩
    refine ⟨.int t, rfl, .int a, rfl, .int r, rfl, t, a, r, rfl, T, a0, a1, r0, r1, .int t, rfl, t, 1, rfl, rfl, ?_⟩
    refine ⟨.int a, rfl, .int (t - 1), rfl, rfl, _, rfl, ite2 (fun e => ?_) (fun e => ?_)⟩
    · have e := V.int.inj (of_decide_eq_true e)
      have : opp t a r = r := by unfold opp; rw [if_pos e]
      rw [this] at q
      exact ⟨.int r, rfl, q⟩
    · have e1 : ¬ a = t - 1 := fun z => e (decide_eq_true (congrArg V.int z))
      refine ⟨.int a, rfl, .int r, rfl, rfl, _, rfl, ite2 (fun e => ?_) (fun e => ?_)⟩
      · have e := V.int.inj (of_decide_eq_true e)
        have : opp t a r = t - 1 := by unfold opp; rw [if_neg e1, if_pos e]
        rw [this] at q
        exact ⟨.int (t - 1), rfl, q⟩
      · have e2 : ¬ a = r := fun z => e (decide_eq_true (congrArg V.int z))
        have : opp t a r = (2 * r - a) % (t - 1) := by unfold opp; rw [if_neg e1, if_neg e2]
        rw [this] at q
        exact ⟨.int r, rfl, 2, r, rfl, rfl, .inl ⟨by decide, by decide⟩, .int a, rfl, 2 * r, a, rfl, rfl, .int (t - 1), rfl, 2 * r - a, t - 1, rfl, rfl, (by show (0 : Int) < t - 1; omega), q⟩
def spHome : Sp := fun vs H Q _ => ∃ t a r : Int, vs = [.int t, .int a, .int r] ∧ TOk t ∧ 0 ≤ a ∧ a < t ∧ 0 ≤ r ∧ r < t - 1 ∧ Q (.bl (home t a r)) H
theorem fn_atHome (d : DefAt K mg "at_home" t_at_home ["teams", "team", "number"]) (F : Fn P w K mg base "_check_team_in_round" ["teams", "team", "number"] 4 spTR) : Fn P w K mg base "at_home" ["teams", "team", "number"] 5 spHome := by
  refine d.fn scAtHome (fun vs H Q E h => ?_) (fun f cdv A outer s H vs Q E hr h => ?_)
  · obtain ⟨t, a, r, rfl, _⟩ := h
    rfl
  · obtain ⟨t, a, r, rfl, T, a0, a1, r0, r1, q⟩ := h
    have := T.two
    refine ⟨_, pss_cons (ps_expr (pe_f F hr (by decide) (by rfl) (pa_cons (pv 0) (pa_cons (pv 1) (pa_cons (pv 2) pa_nil)))))
      (pss_cons (ps_set (i := 3) scAtHome.nd rfl (.inl rfl) (pe_op op_sub (pv 0) pe_int))
      (pss_cons (ps_if (pt_cmpR op_eq (pv 1) (pv 3) (nomark _)) (pss_one (ps_ret (pe_cmpR op_eq (pe_op op_mod (pv 2) pe_int) pe_int (nomark _)))) pss_nil)
      (pss_cons (ps_if (pt_cmpR op_eq (pv 1) (pv 2) (nomark _)) (pss_one (ps_ret (pe_cmpR op_eq (pe_op op_mod (pv 2) pe_int) pe_int (nomark _)))) pss_nil)
      (pss_one (ps_ret (pe_cmpR op_eq (pe_op op_mod (pe_op op_mod (pe_op op_sub (pv 1) (pv 2)) (pv 3)) pe_int) pe_int (nomark _))))))), ?_⟩
    refine ⟨.int t, rfl, .int a, rfl, .int r, rfl, t, a, r, rfl, T, a0, a1, r0, r1, .int t, rfl, t, 1, rfl, rfl, ?_⟩
    refine ⟨.int a, rfl, .int (t - 1), rfl, rfl, _, rfl, ite2 (fun e => ?_) (fun e => ?_)⟩
    · have e := V.int.inj (of_decide_eq_true e)
      have : home t a r = decide (V.int (r % 2) = V.int 0) := by unfold home; rw [if_pos e, dec_int]
      rw [this] at q
      exact ⟨.int r, rfl, r, 2, rfl, rfl, (by show (0 : Int) < 2; decide), rfl, q⟩
    · have e1 : ¬ a = t - 1 := fun z => e (decide_eq_true (congrArg V.int z))
      refine ⟨.int a, rfl, .int r, rfl, rfl, _, rfl, ite2 (fun e => ?_) (fun e => ?_)⟩
      · have e := V.int.inj (of_decide_eq_true e)
        have : home t a r = decide (V.int (r % 2) = V.int 1) := by unfold home; rw [if_neg e1, if_pos e, dec_int]
        rw [this] at q
        exact ⟨.int r, rfl, r, 2, rfl, rfl, (by show (0 : Int) < 2; decide), rfl, q⟩
      · have e2 : ¬ a = r := fun z => e (decide_eq_true (congrArg V.int z))
        have : home t a r = decide (V.int ((a - r) % (t - 1) % 2) = V.int 1) := by unfold home; rw [if_neg e1, if_neg e2, dec_int]
        rw [this] at q
        exact ⟨.int a, rfl, .int r, rfl, a, r, rfl, rfl, .int (t - 1), rfl, a - r, t - 1, rfl, rfl, (by show (0 : Int) < t - 1; omega), (a - r) % (t - 1), 2, rfl, rfl, (by show (0 : Int) < 2; decide), rfl, q⟩
end
end EM
namespace EM
open PySem PySem.Spec PyProof.Rows L2
theorem scCell : FnScope ["_law_script", "_law_k"] ["_law_script", "_law_k"] (defScope t__law_cell_at) := ⟨rfl, rfl, rfl, by decide +kernel, rfl, by decide +kernel, by decide +kernel⟩
theorem scDraw : FnScope ["_law_cell", "_law_k", "_law_many", "_law_primes"] ["_law_cell", "_law_k", "_law_many"] (defScope t__law_draw) := ⟨rfl, rfl, rfl, by decide +kernel, rfl, by decide +kernel, by decide +kernel⟩
theorem scValue : FnScope ["_law_cell", "_law_k", "_law_limit"] ["_law_cell", "_law_k", "_law_limit"] (defScope t__law_value) := ⟨rfl, rfl, rfl, by decide +kernel, rfl, by decide +kernel, by decide +kernel⟩
section
variable {P : Program} {w : World} {K : PySem.W.Frag} {mg : Str → Option Value} {base : Heap}
/-! ### a cell of the script -/
def spCell (K : PySem.W.Frag) : Sp := fun vs H Q _ => ∃ (a : Addr) (ns : List Int) (k : Int), vs = [.ref a, .int k] ∧ SqL K H a (ns.map V.int) ∧ 0 ≤ k ∧ ∀ c : Int, (c = 0 ∨ c ∈ ns) → Q (.int c) H
theorem fn_cell (d : DefAt K mg "_law_cell_at" t__law_cell_at ["_law_script", "_law_k"]) (T : Names mg) : Fn P w K mg base "_law_cell_at" ["_law_script", "_law_k"] 1 (spCell K) := by
  refine d.fn scCell (fun vs H Q E h => ?_) (fun f cdv A outer s H vs Q E hr h => ?_)
  · obtain ⟨a, ns, k, rfl, _⟩ := h
    rfl
  · obtain ⟨a, ns, k, rfl, hS, k0, q⟩ := h
    refine ⟨_, pss_cons (ps_if (pt_cmpR op_lt (pv 1) (pe_callB call_len_seq (by rfl) T.len PySem.boot_len (pa_cons (pv 0) pa_nil)) (nomark _)) (pss_one (ps_ret (pe_ix ix_list (pv 0) (pv 1) (fun _ _ => rfl)))) pss_nil) (pss_one (ps_ret pe_int)), ?_⟩
    refine ⟨.int k, rfl, .ref a, rfl, a, _, rfl, .inl hS, k, _, rfl, rfl, _, rfl, ite2 (fun e => ?_) (fun e => ?_)⟩
    · have e := of_decide_eq_true e
      rw [List.length_map] at e
      obtain ⟨j, rfl⟩ : ∃ j : Nat, k = (j : Int) := ⟨k.toNat, by omega⟩
      have hj : j < ns.length := by omega
      refine ⟨.ref a, rfl, .int (j : Int), rfl, a, _, _, .int ns[j], rfl, rfl, hS, atI_nat ?_, q _ (.inr (List.getElem_mem hj))⟩
      rw [List.getElem?_map, List.getElem?_eq_getElem hj]
      rfl
    · exact q 0 (.inl rfl)
/-! ### a drawn number -/
def spDraw : Sp := fun vs H Q _ => ∃ c k m : Int, vs = [.int c, .int k, .int m] ∧ 0 < m ∧ ∀ (v : Int) (H' : Hp), 0 ≤ v → v < m → Same H H' → Q (.int v) H'
theorem fn_draw (d : DefAt K mg "_law_draw" t__law_draw ["_law_cell", "_law_k", "_law_many"]) : Fn P w K mg base "_law_draw" ["_law_cell", "_law_k", "_law_many"] 1 spDraw := by
  refine d.fn scDraw (fun vs H Q E h => ?_) (fun f cdv A outer s H vs Q E hr h => ?_)
  · obtain ⟨c, k, m, rfl, _⟩ := h
    rfl
  · obtain ⟨c, k, m, rfl, m0, q⟩ := h
    refine ⟨_, pss_cons (ps_set (i := 3) scDraw.nd rfl (.inl rfl) (pe_tup (pa_cons pe_int (pa_cons pe_int (pa_cons pe_int (pa_cons pe_int (pa_cons pe_int (pa_cons pe_int (pa_cons pe_int (pa_cons pe_int
        (pa_cons pe_int (pa_cons pe_int (pa_cons pe_int (pa_cons pe_int (pa_cons pe_int (pa_cons pe_int (pa_cons pe_int (pa_cons pe_int pa_nil))))))))))))))))))
      (pss_one (ps_ret (pe_op op_mod (pe_op op_mod (pe_op op_add (pe_op op_mul (pv 0) pe_int) (pe_op op_mul (pv 1) pe_int)) (pe_ix ix_tup (pv 3) (pe_op op_mod (pv 1) pe_int) (fun _ _ => rfl))) (pv 2)))), ?_⟩
    refine ⟨by show 16 ≤ sizeLine; decide, fun p np => ?_⟩
    have x0 : 0 ≤ k % 16 := Int.emod_nonneg _ (by decide)
    have x1 : k % 16 < 16 := Int.emod_lt_of_pos _ (by decide)
    refine ⟨.int c, rfl, c, _, rfl, rfl, .inr ⟨by decide, by decide⟩, .int k, rfl, k, _, rfl, rfl, .inr ⟨by decide, by decide⟩, _, _, rfl, rfl, ?_⟩
    obtain ⟨z, hz, z0, _⟩ := pickI (b := 2000000) (i := k % 16) (xs := [.int 1000003, .int 1000033, .int 1000037, .int 1000039, .int 1000081, .int 1000099, .int 1000117, .int 1000121,
      .int 1000133, .int 1000151, .int 1000159, .int 1000171, .int 1000183, .int 1000187, .int 1000193, .int 1000199]) (by decide) x0 x1
    refine ⟨.ref p, rfl, .int k, rfl, k, 16, rfl, rfl, (by show (0 : Int) < 16; decide), p, _, k % 16, .int z, rfl, rfl, .inl (.inl upd_same), hz, ?_⟩
    refine ⟨_, z, rfl, rfl, z0, .int m, rfl, _, m, rfl, rfl, m0, ?_⟩
    exact q _ _ (Int.emod_nonneg _ (by omega)) (Int.emod_lt_of_pos _ m0) (same_upd np)
/-! ### a value: to forty figures -/
def spValue : Sp := fun vs H Q _ => ∃ c k : Int, vs = [.int c, .int k, .int 900000] ∧ bits20 c ∧ 0 ≤ k ∧ k ≤ 100 ∧ ∀ (v : Int) (H' : Hp), 0 ≤ v → v < 10 ^ 40 → Same H H' → Q (.int v) H'
theorem sum_bits {c e : Int} (hc : bits20 c) (e0 : 0 ≤ e) (e1 : e ≤ 1000000) : (c + e).natAbs.log2 < 2000000 := by
  unfold bits20 at hc
  have h1 : c.natAbs < 2 ^ 1048577 := by
    have := Nat.lt_log2_self (n := c.natAbs)
    exact Nat.lt_of_lt_of_le this (Nat.pow_le_pow_right (by decide) (by omega))
  have h2 : e.natAbs < 2 ^ 1048577 := by
    have : (1000000 : Nat) < 2 ^ 20 := by decide
    exact Nat.lt_of_lt_of_le (show e.natAbs < 2 ^ 20 by omega) (Nat.pow_le_pow_right (by decide) (by decide))
  have h3 : (c + e).natAbs < 2 ^ 1048578 := by
    have p : (2 : Nat) ^ 1048578 = 2 * 2 ^ 1048577 := by rw [show (1048578 : Nat) = 1048577 + 1 from rfl, Nat.pow_succ, Nat.mul_comm]
    rw [p]
    generalize (2 : Nat) ^ 1048577 = z at *
    omega
  have := PySem.Flt.log2_lt_of (by decide) h3
  omega
theorem fn_value (d : DefAt K mg "_law_value" t__law_value ["_law_cell", "_law_k", "_law_limit"]) (F : Fn P w K mg base "_law_draw" ["_law_cell", "_law_k", "_law_many"] 1 spDraw) : Fn P w K mg base "_law_value" ["_law_cell", "_law_k", "_law_limit"] 2 spValue := by
  refine d.fn scValue (fun vs H Q E h => ?_) (fun f cdv A outer s H vs Q E hr h => ?_)
  · obtain ⟨c, k, rfl, _⟩ := h
    rfl
  · obtain ⟨c, k, rfl, hc, k0, k1, q⟩ := h
    refine ⟨_, pss_cons (ps_if (pt_cmpR op_ge (pv 0) (pe_op op_pow pe_int pe_int) (nomark _)) (pss_one (ps_ret (pe_op op_mod (pe_op op_fdiv (pe_op op_sub (pv 0) (pe_op op_pow pe_int pe_int))
        (pe_ix ix_tup (pe_tup (pa_cons pe_int (pa_cons pe_int (pa_cons pe_int (pa_cons pe_int pa_nil))))) (pe_op op_mod (pv 1) pe_int) (fun _ _ => rfl))) (pe_op op_pow pe_int pe_int)))) pss_nil)
      (pss_one (ps_ret (pe_f F hr (by decide) (by rfl) (pa_cons (pe_op op_mulH (pe_op op_add (pv 0) (pe_op op_mul pe_int (pv 1))) (pe_op op_add (pe_op op_add (pv 0) (pe_op op_mul pe_int (pv 1))) pe_int))
        (pa_cons (pe_op op_add (pe_op op_mod (pv 1) pe_int) pe_int) (pa_cons (pv 2) pa_nil)))))), ?_⟩
    refine ⟨.int c, rfl, 10, 18, rfl, rfl, ⟨by decide, by decide, by decide⟩, c, _, rfl, rfl, _, rfl, ite2 (fun e => ?_) (fun e => ?_)⟩
    · refine ⟨.int c, rfl, 10, 18, rfl, rfl, ⟨by decide, by decide, by decide⟩, c, _, rfl, rfl, by show 4 ≤ sizeLine; decide, fun p np => ?_⟩
      have x0 : 0 ≤ k % 4 := Int.emod_nonneg _ (by decide)
      have x1 : k % 4 < 4 := Int.emod_lt_of_pos _ (by decide)
      obtain ⟨z, hz, z0, z1⟩ := pickI (b := 1000) (i := k % 4) (xs := [.int 1, .int 7, .int 49, .int 343]) (by decide) x0 x1
      refine ⟨.int k, rfl, k, 4, rfl, rfl, (by show (0 : Int) < 4; decide), p, _, k % 4, .int z, rfl, rfl, .inl (.inl upd_same), hz, ?_⟩
      refine ⟨_, z, rfl, rfl, ⟨z0, by omega⟩, 10, 40, rfl, rfl, ⟨by decide, by decide, by decide⟩, _, _, rfl, rfl, (by show (0 : Int) < (10 : Int) ^ (40 : Int).toNat; decide), ?_⟩
      exact q _ _ (Int.emod_nonneg _ (by decide)) (Int.emod_lt_of_pos _ (by decide)) (same_upd np)
    · refine ⟨.int c, rfl, .int k, rfl, 977, k, rfl, rfl, .inl ⟨by decide, by decide⟩, c, 977 * k, rfl, rfl, .int c, rfl, .int k, rfl, 31, k, rfl, rfl, .inl ⟨by decide, by decide⟩, c, 31 * k, rfl, rfl, c + 31 * k, 5, rfl, rfl, c + 977 * k, c + 31 * k + 5, rfl, rfl, ?_,
        .int k, rfl, k, 9, rfl, rfl, (by show (0 : Int) < 9; decide), k % 9, 1, rfl, rfl, .int 900000, rfl, _, _, 900000, rfl, by decide, fun v H' v0 v1 sm => ?_⟩
      · have h1 := sum_bits (e := 977 * k) hc (by omega) (by omega)
        have h2 := sum_bits (e := 31 * k + 5) hc (by omega) (by omega)
        rw [← Int.add_assoc] at h2
        show _ + _ < 100000000
        omega
      · exact q v H' v0 (Int.lt_of_lt_of_le v1 (by decide)) sm
end
end EM
namespace EM
open PySem PySem.Spec PyProof.Rows L2
theorem scSays : FnScope ["_law_said", "_law_due"] ["_law_said", "_law_due"] (defScope t__law_says) := ⟨rfl, rfl, rfl, by decide +kernel, rfl, by decide +kernel, by decide +kernel⟩
section
variable {P : Program} {w : World} {K : PySem.W.Frag} {mg : Str → Option Value} {base : Heap}
def spSays : Sp := fun vs H Q _ => ∃ b : Bool, vs = [.bl b, .bl b] ∧ Q (.bl true) H
theorem fn_says (d : DefAt K mg "_law_says" t__law_says ["_law_said", "_law_due"]) (T : Names mg) : Fn P w K mg base "_law_says" ["_law_said", "_law_due"] 1 spSays := by
  refine d.fn scSays (fun vs H Q E h => ?_) (fun f cdv A outer s H vs Q E hr h => ?_)
  · obtain ⟨n, rfl, _⟩ := h
    rfl
  · obtain ⟨b, rfl, q⟩ := h
    refine ⟨_, pss_one (ps_ret (pe_and (pe_callB call_isi (by rfl) T.isinst boot_isinstance (pa_cons (pv 0) (pa_cons (pe_bltn (v := .ty "bool") (by rfl) T.bool boot_bool rfl) pa_nil)))
      (pe_one (pe_cmpR op_eq (pv 0) (pv 1) (nomark _))))), ?_⟩
    refine ⟨.bl b, rfl, .bl b, .ty "bool", _, _, true, rfl, .ty "bool", .base (.bl b), kit_ty (by decide +kernel), true, rfl, iteT ?_⟩
    refine ⟨.bl b, rfl, .bl b, rfl, rfl, ?_⟩
    show Q (.bl (decide (V.bl b = V.bl b))) H
    rw [decide_eq_true rfl]
    exact q
end
end EM
namespace EM
open PySem PySem.Spec PyProof.Rows L2
theorem scPlan : FnScope ["_law_teams", "_law_found", "_law_number", "_law_pairs", "_law_team"] ["_law_teams"] (defScope t__law_plan) := ⟨rfl, rfl, rfl, by decide +kernel, rfl, by decide +kernel, by decide +kernel⟩
section
variable {P : Program} {w : World} {K : PySem.W.Frag} {mg : Str → Option Value} {base : Heap}
def spPlan : Sp := fun vs H Q _ => ∃ t : Int, vs = [.int t] ∧ TOk t ∧ t ≤ 900 ∧ ∀ H' p, Same H H' → PlanAt H' p (planOf t (t - 1).toNat) → Q (.ref p) H'
theorem fn_plan (d : DefAt K mg "_law_plan" t__law_plan ["_law_teams"]) (N : Names mg) (Fo : Fn P w K mg base "opponent" ["teams", "team", "number"] 5 spOpp) (Fh : Fn P w K mg base "at_home" ["teams", "team", "number"] 5 spHome) : Fn P w K mg base "_law_plan" ["_law_teams"] 6 spPlan := by
  refine d.fn scPlan (fun vs H Q E h => ?_) (fun f cdv A outer s H vs Q E hr h => ?_)
  · obtain ⟨t, rfl, _⟩ := h
    rfl
  · obtain ⟨t, rfl, T, tb, q⟩ := h
    have := T.two
    refine ⟨_, pss_cons (ps_set (i := 1) scPlan.nd rfl (.inl rfl) (pe_lst pa_nil))
      (pss_cons (ps_for PassesOwn.never rfl (pi_range1 (by rfl) N.range (pa_cons (pe_op op_sub (pv 0) pe_int) pa_nil)) (pg_name (i := 2) scPlan.nd rfl (.inl rfl))
        (pss_cons (ps_set (i := 3) scPlan.nd rfl (.inl rfl) (pe_lst pa_nil))
        (pss_cons (ps_for PassesOwn.never rfl (pi_range1 (by rfl) N.range (pa_cons (pv 0) pa_nil)) (pg_name (i := 4) scPlan.nd rfl (.inl rfl))
          (pss_one (ps_if (pt_val (pe_f Fh hr (by decide) (by rfl) (pa_cons (pv 0) (pa_cons (pv 4) (pa_cons (pv 2) pa_nil)))))
            (pss_one (ps_expr (pe_bm PySem.F.plainAttrs_list PySem.F.slot_list_append PySem.F.type_list_append mt_append (pv 3) (pa_cons (pe_tup (pa_cons (pv 4) (pa_cons (pe_f Fo hr (by decide) (by rfl) (pa_cons (pv 0) (pa_cons (pv 4) (pa_cons (pv 2) pa_nil)))) pa_nil))) pa_nil)))) pss_nil)))
        (pss_one (ps_expr (pe_bm PySem.F.plainAttrs_list PySem.F.slot_list_append PySem.F.type_list_append mt_append (pv 1) (pa_cons (pv 3) pa_nil)))))))
      (pss_one (ps_ret (pv 1)))), ?_⟩
    refine ⟨Nat.zero_le _, fun p np => ?_⟩
    have s0 := same_upd (o := .lst []) np
    refine ⟨.int t, rfl, t, 1, rfl, rfl, t - 1, rfl, by omega, by omega, for_range (n := (t - 1).toNat) (fun i σ H' => ∃ y2 y3 y4 vs, σ = [some (.int t), some (.ref p), y2, y3, y4] ∧ Same H H' ∧ H' p = some (.lst vs) ∧ All2 (RowAt (del H' p)) vs (planOf t i))
      ⟨none, none, none, [], rfl, s0, upd_same, .nil⟩ ?_ ?_⟩
    · rintro i σ H1 hi ⟨y2, y3, y4, vs, rfl, s1, e1, av⟩
      rw [Int.zero_add]
      refine ⟨Nat.zero_le _, fun l nl => ?_⟩
      have nlp : l ≠ p := (ne_of_none e1 nl).symm
      have s2 := same_upd (o := .lst []) nl
      refine ⟨.int t, rfl, t, rfl, by omega, by omega, for_range (n := t.toNat) (fun j σ H' => ∃ y4 ps, σ = [some (.int t), some (.ref p), some (.int (i : Int)), some (.ref l), y4] ∧ Same H1 H' ∧ H' l = some (.lst ps) ∧ All2 (PairAt H') ps (rowOf t (i : Int) j))
        ⟨y4, [], rfl, s2, upd_same, .nil⟩ ?_ ?_⟩
      · rintro j σ H2 hj ⟨z4, ps, rfl, s3, e3, ap⟩
        rw [Int.zero_add]
        refine ⟨.int t, rfl, .int (j : Int), rfl, .int (i : Int), rfl, t, (j : Int), (i : Int), rfl, T, by omega, by omega, by omega, by omega, home t (j : Int) (i : Int), rfl, ite2 (fun e => ?_) (fun e => ?_)⟩
        · refine ⟨.ref l, rfl, .inl ⟨rfl, _, SqL.of e3⟩, .int (j : Int), rfl, .int t, rfl, .int (j : Int), rfl, .int (i : Int), rfl, t, (j : Int), (i : Int), rfl, T, by omega, by omega, by omega, by omega, by show 2 ≤ sizeLine; decide, fun q' nq => ?_⟩
          have nql : l ≠ q' := ne_of_none e3 nq
          have s4 := same_upd (o := .tup [.int (j : Int), .int (opp t (j : Int) (i : Int))]) nq
          refine ⟨l, ps, .ref q', rfl, rfl, by rw [upd_ne nql]; exact e3, ?_, ?_⟩
          · have := ap.len
            have := rowOf_len t (i : Int) j
            exact small1000 (by omega)
          · refine ⟨_, _, rfl, fun b o eb => ?_, upd_same, ?_⟩
            · have nbl : b ≠ l := ne_of_none eb nl
              rw [upd_ne nbl]
              exact s4 _ _ (s3 _ _ eb)
            · rw [rowOf_succ, if_pos e]
              have e4 : upd H2 q' (.tup [.int (j : Int), .int (opp t (j : Int) (i : Int))]) l = some (.lst ps) := by rw [upd_ne nql]; exact e3
              exact (ap.mono fun _ _ h => (h.mono s4).upd e4).snoc ⟨q', rfl, by rw [upd_ne nql.symm, upd_same]⟩
        · exact ⟨_, ps, rfl, s3, e3, by rw [rowOf_succ, if_neg e, List.append_nil]; exact ap⟩
      · rintro σ H2 ⟨z4, ps, rfl, s3, e3, ap⟩
        have e4 : H2 p = some (.lst vs) := s3 _ _ e1
        refine ⟨.ref p, rfl, .inl ⟨rfl, _, SqL.of e4⟩, .ref l, rfl, p, vs, .ref l, rfl, rfl, e4, ?_, ?_⟩
        · have := av.len
          rw [planOf_len] at this
          exact small1000 (by omega)
        · refine ⟨_, _, _, _, rfl, fun b o eb => ?_, upd_same, ?_⟩
          · have nbp : b ≠ p := ne_of_none eb np
            rw [upd_ne nbp]
            exact s3 _ _ (s1 _ _ eb)
          · rw [planOf_succ]
            have sd : Same (del H1 p) (del (upd H2 p (.lst (vs ++ [.ref l]))) p) := (del_same p s3).trans (del_upd' H2 p _)
            refine (av.mono fun _ _ h => h.mono sd).snoc ⟨l, ps, rfl, by rw [del_ne nlp, upd_ne nlp]; exact e3, ap.mono fun _ _ h => (h.del e4).mono (del_upd' H2 p _)⟩
    · rintro σ H1 ⟨y2, y3, y4, vs, rfl, s1, e1, av⟩
      exact ⟨.ref p, rfl, q H1 p s1 ⟨vs, e1, av.mono fun _ _ h => h.mono (del_le H1 p)⟩⟩
end
end EM
namespace EM
open PySem PySem.Spec PyProof.Rows L2
theorem scLone : FnScope ["_law_plan_here", "_law_number", "_law_team", "_law_pair"] ["_law_plan_here", "_law_number", "_law_team"] (defScope t__law_lone) := ⟨rfl, rfl, rfl, by decide +kernel, rfl, by decide +kernel, by decide +kernel⟩
section
variable {P : Program} {w : World} {K : PySem.W.Frag} {mg : Str → Option Value} {base : Heap}
def spLone : Sp := fun vs H Q _ => ∃ (a : Addr) (pl : List (List (Int × Int))) (n : Nat) (c : Int) (row : List (Int × Int)), vs = [.ref a, .int (n : Int), .int c] ∧ PlanAt H a pl ∧ pl[n]? = some row ∧ row.length ≤ 900 ∧
  ∀ H', Same H H' → Q (.bl (!decide (V.int ((cntOf row c : Nat) : Int) = V.int 1))) H'
theorem fn_lone (d : DefAt K mg "_law_lone" t__law_lone ["_law_plan_here", "_law_number", "_law_team"]) (N : Names mg) : Fn P w K mg base "_law_lone" ["_law_plan_here", "_law_number", "_law_team"] 1 spLone := by
  refine d.fn scLone (fun vs H Q E h => ?_) (fun f cdv A outer s H vs Q E hr h => ?_)
  · obtain ⟨a, pl, n, c, row, rfl, _⟩ := h
    rfl
  · obtain ⟨a, pl, n, c, row, rfl, hP, hn, hl, q⟩ := h
    refine ⟨_, pss_one (ps_ret (pe_cmpR op_ne (pe_callB call_len_seq (by rfl) N.len PySem.boot_len (pa_cons
        (pe_lc (own := [("_law_pair", 3)]) (g := gName 3) (tt := tTest (tOp (rIn K false) (tVar 2) (tVar 3))) (te := tVar 3) rfl scLone.nd (pi_list (pe_ix ix_list (pv 0) (pv 1) (fun _ _ => rfl)))
          (blkOk_by (N := ["_law_plan_here", "_law_number", "_law_team", "_law_pair"]) (sc := defScope t__law_lone) (by decide +kernel))
          (fun _ _ _ _ _ => pg_name (i := 3) scLone.nd rfl (Or.inl rfl)) (fun _ _ _ _ _ => pts_one (pt_cmpR op_in_seq (pv 2) (pv 3) (by rfl))) (fun _ _ _ _ _ => pv 3)) pa_nil)) pe_int (nomark _))), ?_⟩
    obtain ⟨vs, hv, av⟩ := hP
    obtain ⟨v, ev, q', us, rfl, hq, au⟩ := av.at' hn
    refine ⟨.ref a, rfl, .int (n : Int), rfl, a, vs, (n : Int), .ref q', rfl, rfl, SqL.of hv, atI_nat ev, q', rfl, ⟨_, SqL.of hq⟩, fun D nD => lc_list (K := K) (a := q') (xs := us)
      (fun i H' => Same H H' ∧ ∃ out, H' D = some (.lst out) ∧ out.length = cntOf (row.take i) c) ⟨same_upd nD, [], upd_same, rfl⟩ (fun i H' _ h => h.1.seq (SqL.of hq)) ?_ ?_⟩
    · rintro i x H1 hx ⟨s1, out, e1, ol⟩
      obtain ⟨p, hp, qp, rfl, hqp⟩ := au.at hx
      have hq1 := s1 _ _ hqp
      refine ⟨rfl, .int c, rfl, .ref qp, rfl, qp, _, rfl, .inr (SqT.of hq1), rfl, rfl, hasB c p, rfl, ?_⟩
      have cs : cntOf (row.take (i + 1)) c = cntOf (row.take i) c + if hasB c p = true then 1 else 0 := by
        unfold cntOf
        rw [take_snoc hp, List.filter_append, List.length_append]
        cases hb : hasB c p <;> simp [hb]
      have il : i < us.length := (List.getElem?_eq_some_iff.mp hx).1
      have := au.len
      have cl : cntOf (row.take i) c ≤ 900 := by
        unfold cntOf
        exact Nat.le_trans (List.length_filter_le _ _) (by rw [List.length_take]; omega)
      refine ite2 (fun e => ?_) (fun e => ?_)
      · refine ⟨.ref qp, rfl, out, e1, small1000 (by omega), fun b o eb => ?_, _, upd_same, ?_⟩
        · have nb : b ≠ D := ne_of_none eb nD
          rw [upd_ne nb]
          exact s1 _ _ eb
        · rw [cs, if_pos e, List.length_append, ol]
          rfl
      · refine ⟨s1, out, e1, ?_⟩
        rw [cs, if_neg e, ol]
        rfl
    · rintro H1 ⟨s1, out, e1, ol⟩
      have ef : cntOf (row.take us.length) c = cntOf row c := by rw [au.len, List.take_length]
      rw [ef] at ol
      refine ⟨D, out, rfl, .inl (SqL.of e1), rfl, ?_⟩
      have := q H1 s1
      rw [← ol] at this
      exact this
end
end EM
namespace EM
open PySem PySem.Spec PyProof.Rows L2
theorem keys_take {pl : List (List (Int × Int))} {i : Nat} {row : List (Int × Int)} (h : pl[i]? = some row) : keysOf (pl.take (i + 1)) = keysOf (pl.take i) ++ row.map keyOf := by
  unfold keysOf
  rw [take_snoc h, List.flatten_append, List.map_append]
  simp
theorem keys_pre {pl : List (List (Int × Int))} {i : Nat} : ∃ r, keysOf pl = keysOf (pl.take i) ++ r := by
  refine ⟨keysOf (pl.drop i), ?_⟩
  unfold keysOf
  rw [← List.map_append, ← List.flatten_append, List.take_append_drop]
theorem keys_len_le {pl : List (List (Int × Int))} {i j : Nat} {row : List (Int × Int)} (hi : pl[i]? = some row) : (keysOf (pl.take i) ++ (row.take j).map keyOf).length ≤ (keysOf pl).length := by
  obtain ⟨r, e⟩ := keys_pre (pl := pl) (i := i + 1)
  rw [keys_take hi] at e
  rw [e]
  simp only [List.length_append, List.length_map, List.length_take]
  omega
section
variable {P : Program} {w : World} {K : PySem.W.Frag} {mg : Str → Option Value} {base : Heap}
theorem scGood : FnScope ["_law_teams", "_law_plan_here", "_law_number", "_law_table", "_law_pairs", "_law_one", "_law_other", "_law_two", "_law_team"] ["_law_teams", "_law_plan_here"] (defScope t__law_good) := ⟨rfl, rfl, rfl, by decide +kernel, rfl, by decide +kernel, by decide +kernel⟩
def spGood : Sp := fun vs H Q _ => ∃ (t : Int) (a : Addr) (pl : List (List (Int × Int))), vs = [.int t, .ref a] ∧ PlanAt H a pl ∧ 2 ≤ t ∧ t ≤ 900 ∧ Sized pl ∧ ∀ H', Same H H' → Q (.bl (goodB t pl)) H'
theorem fn_good (d : DefAt K mg "_law_good" t__law_good ["_law_teams", "_law_plan_here"]) (N : Names mg) (F : Fn P w K mg base "_law_lone" ["_law_plan_here", "_law_number", "_law_team"] 1 spLone) : Fn P w K mg base "_law_good" ["_law_teams", "_law_plan_here"] 2 spGood := by
  refine d.fn scGood (fun vs H Q E h => ?_) (fun f cdv A outer s H vs Q E hr h => ?_)
  · obtain ⟨t, a, pl, rfl, _⟩ := h
    rfl
  · obtain ⟨t, a, pl, rfl, hP, t2, t9, G, q⟩ := h
    refine ⟨_, pss_cons (ps_for PassesOwn.never rfl (pi_range1 (by rfl) N.range (pa_cons (pe_callB call_len_seq (by rfl) N.len PySem.boot_len (pa_cons (pv 1) pa_nil)) pa_nil)) (pg_name (i := 2) scGood.nd rfl (.inr rfl))
        (pss_one (ps_if (pt_val (pe_callB (cr_any rfl) (by rfl) N.any boot_any (pa_cons
          (pe_lc (own := [("_law_team", 8)]) (g := gName 8) (tt := tYes) rfl scGood.nd (pi_range1 (by rfl) N.range (pa_cons (pv 0) pa_nil))
            (blkOk_by (N := ["_law_teams", "_law_plan_here", "_law_number", "_law_table", "_law_pairs", "_law_one", "_law_other", "_law_two", "_law_team"]) (sc := defScope t__law_good) (by decide +kernel))
            (fun _ _ _ _ _ => pg_name (i := 8) scGood.nd rfl (Or.inl rfl)) (fun _ _ _ _ _ => pts_nil) (fun _ _ _ _ _ => pe_f F hr (by decide) (by rfl) (pa_cons (pv 1) (pa_cons (pv 2) (pa_cons (pv 8) pa_nil))))) pa_nil)))
          (pss_one (ps_ret pe_bl)) pss_nil)))
      (pss_cons (ps_set (i := 3) scGood.nd rfl (.inl rfl) pe_dnewT)
      (pss_cons (ps_for PassesOwn.never rfl (pi_list (pv 1)) (pg_name (i := 4) scGood.nd rfl (.inl rfl))
        (pss_one (ps_for PassesOwn.never rfl (pi_list (pv 4)) (pg_tup rfl (pgs_cons (pg_name (i := 5) scGood.nd rfl (.inl rfl)) (pgs_cons (pg_name (i := 6) scGood.nd rfl (.inl rfl)) pgs_nil)))
          (pss_cons (ps_set (i := 7) scGood.nd rfl (.inl rfl) (pe_tup (pa_cons (pe_callB (call_min2 rfl) (by rfl) N.min boot_min (pa_cons (pv 5) (pa_cons (pv 6) pa_nil))) (pa_cons (pe_callB (call_max2 rfl) (by rfl) N.max boot_max (pa_cons (pv 5) (pa_cons (pv 6) pa_nil))) pa_nil))))
          (pss_one (ps_dput (hu_of hr) (pv 3) (pv 7) (pe_op op_add (pe_dget2 (hu_of hr) (pv 3) (pv 7) pe_int ⟨rfl, rfl, rfl, rfl⟩) pe_int) rfl))))))
      (pss_one (ps_ret (pe_and (pe_cmpR op_eq (pe_callB call_len_dT (by rfl) N.len PySem.boot_len (pa_cons (pv 3) pa_nil)) (pe_op op_fdiv (pe_op op_mul (pv 0) (pe_op op_sub (pv 0) pe_int)) pe_int) (nomark _))
        (pe_one (pe_cmpR op_eq (pe_maxT rfl (by rfl) N.max (pv 3)) pe_int (nomark _)))))))), ?_⟩
    obtain ⟨vs, hv, av⟩ := id hP
    have vl := av.len
    have few := G.few
    refine ⟨.ref a, rfl, a, vs, rfl, .inl (SqL.of hv), _, rfl, by omega, by omega, for_range (n := (((vs.length : Nat) : Int)).toNat) (fun i σ H' => ∃ y2 y3 y4 y5 y6 y7, σ = [some (.int t), some (.ref a), y2, y3, y4, y5, y6, y7, none] ∧ Same H H' ∧ ∀ row ∈ pl.take i, rowBad t row = false)
      ⟨_, _, _, _, _, _, rfl, Same.refl H, fun _ h => absurd h (by simp)⟩ ?_ ?_⟩
    · rintro i σ H1 hi ⟨y2, y3, y4, y5, y6, y7, rfl, s1, once⟩
      rw [Int.zero_add]
      have hil : i < pl.length := by omega
      have hrow : pl[i]? = some pl[i] := List.getElem?_eq_getElem hil
      refine ⟨.int t, rfl, t, rfl, by omega, by omega, fun D nD => lc_range (lo := 0) (n := t.toNat) (fun j H' => Same H1 H' ∧ H' D = some (.lst (((List.range j).map fun (c : Nat) => !decide (V.int ((cntOf pl[i] (c : Int) : Nat) : Int) = V.int 1)).map V.bl))) ⟨same_upd nD, upd_same⟩ ?_ ?_⟩
      · rintro j H2 hj ⟨s2, e2⟩
        rw [Int.zero_add]
        refine ⟨rfl, .ref a, rfl, .int (i : Int), rfl, .int (j : Int), rfl, a, pl, i, (j : Int), pl[i], rfl, hP.mono (s1.trans s2), hrow, G.row _ (List.getElem_mem hil), fun H3 s3 => ?_⟩
        refine ⟨_, s3 _ _ e2, ?_, fun b o eb => ?_, ?_⟩
        · rw [List.length_map, List.length_map, List.length_range]
          exact small1000 (by omega)
        · have nb : b ≠ D := ne_of_none eb nD
          rw [upd_ne nb]
          exact s3 _ _ (s2 _ _ eb)
        · rw [upd_same, List.range_succ, List.map_append, List.map_append]
          rfl
      · rintro H2 ⟨s2, e2⟩
        refine ⟨D, _, rfl, SqL.of e2, rowBad t pl[i], ?_, ite2 (fun e => ?_) (fun e => ?_)⟩
        · unfold rowBad
          rw [List.any_map]
          rfl
        · -- a team that is not just once
          have : goodB t pl = false := by
            unfold goodB
            rw [Bool.and_eq_false_iff]
            left
            rw [List.all_eq_false]
            exact ⟨pl[i], List.getElem_mem hil, by rw [e]; simp⟩
          have q := q H2 (s1.trans s2)
          rw [this] at q
          exact q
        · refine ⟨_, _, _, _, _, _, rfl, s1.trans s2, fun row hr => ?_⟩
          rw [take_snoc hrow] at hr
          rcases List.mem_append.mp hr with h | h
          · exact once row h
          · rw [List.mem_singleton.mp h]
            simpa using e
    · rintro σ H1 ⟨y2, y3, y4, y5, y6, y7, rfl, s1, once⟩
      have all1 : (pl.all fun row => !rowBad t row) = true := by
        rw [List.all_eq_true]
        intro row hr
        have := once row (by rw [List.take_of_length_le (by omega)]; exact hr)
        rw [this]
        rfl
      intro T nT
      have s2 := same_upd (o := .dT []) nT
      have hv2 := s2 _ _ (s1 _ _ hv)
      refine ⟨.ref a, rfl, a, rfl, ⟨_, SqL.of hv2⟩, for_list (K := K) (a := a) (xs := vs) (fun i σ H' => ∃ y2 y4 y5 y6 y7, σ = [some (.int t), some (.ref a), y2, some (.ref T), y4, y5, y6, y7, none] ∧ Same H1 H' ∧ H' T = some (.dT (tal (keysOf (pl.take i)))))
        ⟨_, _, _, _, _, rfl, s2, upd_same⟩ (fun i σ H' _ ⟨_, _, _, _, _, _, h, _⟩ => SqL.of (h _ _ (s1 _ _ hv))) ?_ ?_⟩
      · rintro i x σ H2 hx ⟨z2, z4, z5, z6, z7, rfl, s3, e3⟩
        obtain ⟨row, hrow, q', us, rfl, hq, au⟩ := av.at hx
        have hq2 := s3 _ _ (s1 _ _ hq)
        refine ⟨.ref q', rfl, q', rfl, ⟨_, SqL.of hq2⟩, for_list (K := K) (a := q') (xs := us) (fun j σ H' => ∃ y5 y6 y7, σ = [some (.int t), some (.ref a), z2, some (.ref T), some (.ref q'), y5, y6, y7, none] ∧ Same H1 H' ∧ H' T = some (.dT (tal (keysOf (pl.take i) ++ (row.take j).map keyOf))))
          ⟨_, _, _, rfl, s3, by rw [e3]; simp⟩ (fun j σ H' _ ⟨_, _, _, _, h, _⟩ => SqL.of (h _ _ (s1 _ _ hq))) ?_ ?_⟩
        · rintro j y σ H3 hy ⟨w5, w6, w7, rfl, s4, e4⟩
          obtain ⟨p, hp, qp, rfl, hqp⟩ := au.at hy
          have hq3 := s4 _ _ (s1 _ _ hqp)
          refine ⟨qp, _, rfl, SqT.of hq3, rfl, _, _, rfl, _, _, rfl, rfl, ?_⟩
          refine ⟨_, rfl, _, rfl, p.1, p.2, rfl, _, rfl, _, rfl, p.1, p.2, rfl, by show 2 ≤ sizeLine; decide, fun b nb => ?_⟩
          have s5 := same_upd (o := .tup [.int (if p.2 < p.1 then p.2 else p.1), .int (if p.2 > p.1 then p.2 else p.1)]) nb
          have e5 := s5 _ _ e4
          have klen := keys_len_le (pl := pl) (j := j) hrow
          have kmost := G.most
          have hlen := heads_len (keysOf (pl.take i) ++ (row.take j).map keyOf)
          refine ⟨.ref T, rfl, T, rfl, .inr ⟨_, .inl e5⟩, .ref b, rfl, _, DGet.t (k := keyOf p) e5 upd_same, ?_⟩
          rw [tal_val]
          refine ⟨_, 1, rfl, rfl, .ref T, rfl, .ref b, rfl, T, _, rfl, DPut.t (k := keyOf p) e5 upd_same (by unfold tal; rw [List.length_map]; exact small1000 (by omega)), ?_⟩
          refine ⟨_, _, _, rfl, fun b' o eb => ?_, ?_⟩
          · have nbT : b' ≠ T := ne_of_none eb nT
            rw [upd_ne nbT]
            exact s5 _ _ (s4 _ _ eb)
          · rw [upd_same]
            refine (congrArg (fun x => some (HO.dT x)) (tal_put _ (keyOf p))).trans ?_
            rw [take_snoc hp, List.map_append, List.append_assoc]
            rfl
        · rintro σ H3 ⟨w5, w6, w7, rfl, s4, e4⟩
          refine ⟨_, _, _, _, _, rfl, s4, ?_⟩
          rw [e4, keys_take hrow, au.len, List.take_length]
      · rintro σ H2 ⟨z2, z4, z5, z6, z7, rfl, s3, e3⟩
        rw [vl, List.take_length] at e3
        have kl : (tal (keysOf pl)).length = (heads (keysOf pl)).length := by unfold tal; rw [List.length_map]
        have q := q H2 (s1.trans s3)
        unfold goodB at q
        rw [all1, Bool.true_and] at q
        refine ⟨.ref T, rfl, T, _, rfl, e3, .int t, rfl, .int t, rfl, t, 1, rfl, rfl, t, t - 1, rfl, rfl, .inl ⟨by omega, by omega⟩, t * (t - 1), 2, rfl, rfl, ⟨by decide, by decide⟩, rfl, decide (((heads (keysOf pl)).length : Int) = t * (t - 1) / 2), ?_, ite2 (fun e => ?_) (fun e => ?_)⟩
        · show V.bl (decide (V.int (((tal (keysOf pl)).length : Nat) : Int) = V.int (t * (t - 1) / 2))) = _
          rw [kl, dec_int]
        · rw [e, Bool.true_and] at q
          have e := of_decide_eq_true e
          refine ⟨.ref T, rfl, T, _, (heads (keysOf pl)).map fun k => ((cntK (keysOf pl) k : Nat) : Int), rfl, e3, ?_, ?_, fun m hm hle => ?_⟩
          · unfold tal
            rw [List.map_map, List.map_map]
            rfl
          · intro z
            have z1 := congrArg List.length z
            rw [List.length_map] at z1
            have z2 : (heads (keysOf pl)).length = 0 := z1
            rw [z2] at e
            have : 1 ≤ t * (t - 1) / 2 := by
              have h1 : 2 ≤ t * (t - 1) := by
                have := Int.mul_le_mul (a := 2) (b := 1) (c := t) (d := t - 1) t2 (by omega) (by omega) (by omega)
                omega
              omega
            rw [← e] at this
            exact absurd this (by decide)
          · refine ⟨rfl, ?_⟩
            show Q (V.bl (decide (V.int m = V.int 1))) H2
            have : decide (V.int m = V.int 1) = decide (∀ k ∈ keysOf pl, cntK (keysOf pl) k = 1) := by
              rw [dec_int]
              refine decide_eq_decide.mpr ⟨fun hm1 k hk => ?_, fun h => ?_⟩
              · have h1 := hle _ (List.mem_map.mpr ⟨k, mem_heads.mpr hk, rfl⟩)
                have h2 := cntK_mem hk
                omega
              · obtain ⟨k, hk, rfl⟩ := List.mem_map.mp hm
                rw [h k (mem_heads.mp hk)]
                rfl
            rw [this]
            exact q
        · rw [show decide (((heads (keysOf pl)).length : Int) = t * (t - 1) / 2) = false by simpa using e, Bool.false_and] at q
          exact q
end
end EM
namespace EM
open PySem PySem.Spec PyProof.Rows L2
section
variable {P : Program} {w : World} {K : PySem.W.Frag} {mg : Str → Option Value} {base : Heap}
theorem scPlans : FnScope ["_law_script", "_law_teams", "_law_plan_here", "_law_cell", "_law_by", "_law_renamed", "_law_pairs", "_law_one", "_law_other", "_law_found", "_law_at", "_law_place", "_law_rest", "_law_some", "_law_whole", "_law_drawn", "_law_k", "_law_first", "_law_game", "_law_turn"] ["_law_script", "_law_teams"] (defScope t__law_plans) := ⟨rfl, rfl, rfl, by decide +kernel, rfl, by decide +kernel, by decide +kernel⟩
abbrev PlanV := LAt RowAt
theorem monPlan : Mon PlanV := monL monRow
def spPlans (K : PySem.W.Frag) : Sp := fun vs H Q _ => ∃ (a : Addr) (ns : List Int) (t : Int), vs = [.ref a, .int t] ∧ SqL K H a (ns.map V.int) ∧ (∀ n ∈ ns, bits20 n) ∧ TOk t ∧ t ≤ 24 ∧
  ∀ (H' : Hp) (p : Addr) (pls : List (List (List (Int × Int)))), Same H H' → LAt PlanV H' (.ref p) pls → pls.length = 15 → pls[0]? = some (planOf t (t - 1).toNat) → (∀ pl ∈ pls, Fit t pl) → Q (.ref p) H'
theorem fn_plans (d : DefAt K mg "_law_plans" t__law_plans ["_law_script", "_law_teams"]) (N : Names mg) (Fp : Fn P w K mg base "_law_plan" ["_law_teams"] 6 spPlan) (Fv : Fn P w K mg base "_law_value" ["_law_cell", "_law_k", "_law_limit"] 2 spValue)
    (Fc : Fn P w K mg base "_law_cell_at" ["_law_script", "_law_k"] 1 (spCell K)) (Fd : Fn P w K mg base "_law_draw" ["_law_cell", "_law_k", "_law_many"] 1 spDraw) : Fn P w K mg base "_law_plans" ["_law_script", "_law_teams"] 7 (spPlans K) := by
  refine d.fn scPlans (fun vs H Q E h => ?_) (fun f cdv A outer s H vs Q E hr h => ?_)
  · obtain ⟨a, ns, t, rfl, _⟩ := h
    rfl
  · obtain ⟨a, ns, t, rfl, hS, hb, T, t24, q⟩ := h
    refine ⟨_, (pss_cons (ps_asg (pe_tup (pa_cons (pe_f Fp hr (by decide) (by rfl) (pa_cons (pv 1) pa_nil)) (pa_cons (pe_f Fv hr (by decide) (by rfl) (pa_cons (pe_f Fc hr (by decide) (by rfl) (pa_cons (pv 0) (pa_cons pe_int pa_nil))) (pa_cons pe_int (pa_cons pe_int pa_nil)))) pa_nil))) (pg_tup rfl (pgs_cons (pg_name (i := 2) scPlans.nd rfl (Or.inr rfl)) (pgs_cons (pg_name (i := 3) scPlans.nd rfl (Or.inl rfl)) pgs_nil))))
      (pss_cons (ps_set (i := 4) scPlans.nd rfl (.inr rfl) (pe_op op_mod (pv 3) (pv 1)))
      (pss_cons (ps_set (i := 5) scPlans.nd rfl (.inl rfl) (pe_lst pa_nil))
      (pss_cons (ps_for PassesOwn.never rfl (pi_list (pv 2)) (pg_name (i := 6) scPlans.nd rfl (Or.inl rfl)) (pss_one (ps_expr (pe_bm PySem.F.plainAttrs_list PySem.F.slot_list_append PySem.F.type_list_append mt_append (pv 5) (pa_cons (pe_lc (own := [("_law_one", 7), ("_law_other", 8)]) (g := gTup K 2 (gCons (gName 7) (gCons (gName 8) gNil))) (tt := tYes) (te := _) rfl scPlans.nd (pi_list (pv 6)) (blkOk_by (N := ["_law_script", "_law_teams", "_law_plan_here", "_law_cell", "_law_by", "_law_renamed", "_law_pairs", "_law_one", "_law_other", "_law_found", "_law_at", "_law_place", "_law_rest", "_law_some", "_law_whole", "_law_drawn", "_law_k", "_law_first", "_law_game", "_law_turn"]) (sc := defScope t__law_plans) (by decide +kernel)) (fun _ _ _ _ _ => (pg_tup rfl (pgs_cons (pg_name (i := 7) scPlans.nd rfl (Or.inl rfl)) (pgs_cons (pg_name (i := 8) scPlans.nd rfl (Or.inl rfl)) pgs_nil)))) (fun _ _ _ _ _ => pts_nil) (fun _ _ _ _ _ => (pe_tup (pa_cons (pe_op op_mod (pe_op op_add (pv 7) (pv 4)) (pv 1)) (pa_cons (pe_op op_mod (pe_op op_add (pv 8) (pv 4)) (pv 1)) pa_nil))))) pa_nil)))))
      (pss_cons (ps_set (i := 9) scPlans.nd rfl (.inl rfl) (pe_lst (pa_cons (pv 2) (pa_cons (pe_revL (pv 2)) (pa_cons (pe_lc (own := [("_law_pairs", 6)]) (g := gName 6) (tt := tYes) (te := tRevL K (tVar 6)) rfl scPlans.nd (pi_list (pe_op op_cat (pe_slice sl_list (pv 2) (po_some pe_int) po_none) (pe_slice sl_list (pv 2) po_none (po_some pe_int)))) (blkOk_by (N := ["_law_script", "_law_teams", "_law_plan_here", "_law_cell", "_law_by", "_law_renamed", "_law_pairs", "_law_one", "_law_other", "_law_found", "_law_at", "_law_place", "_law_rest", "_law_some", "_law_whole", "_law_drawn", "_law_k", "_law_first", "_law_game", "_law_turn"]) (sc := defScope t__law_plans) (by decide +kernel)) (fun _ _ _ _ _ => (pg_name (i := 6) scPlans.nd rfl (Or.inl rfl))) (fun _ _ _ _ _ => pts_nil) (fun _ _ _ _ _ => pe_revL (pv 6))) (pa_cons (pv 5) pa_nil))))))
      (pss_cons (ps_set (i := 10) scPlans.nd rfl (.inr rfl) (pe_op op_mod (pe_op op_fdiv (pv 3) pe_int) (pe_callB call_len_seq (by rfl) N.len PySem.boot_len (pa_cons (pv 2) pa_nil))))
      (pss_cons (ps_set (i := 11) scPlans.nd rfl (.inl rfl) (pe_op op_mod (pe_op op_fdiv (pv 3) pe_int) (pe_callB call_len_seq (by rfl) N.len PySem.boot_len (pa_cons (pe_ix ix_list (pv 2) (pv 10) (fun _ _ => rfl)) pa_nil))))
      (pss_cons (ps_asg (pe_ix ix_list (pe_ix ix_list (pv 2) (pv 10) (fun _ _ => rfl)) (pv 11) (fun _ _ => rfl)) (pg_tup rfl (pgs_cons (pg_name (i := 7) scPlans.nd rfl (Or.inl rfl)) (pgs_cons (pg_name (i := 8) scPlans.nd rfl (Or.inl rfl)) pgs_nil))))
      (pss_cons (ps_set (i := 12) scPlans.nd rfl (.inl rfl) (pe_op op_cat (pe_slice sl_list (pe_ix ix_list (pv 2) (pv 10) (fun _ _ => rfl)) po_none (po_some (pv 11))) (pe_slice sl_list (pe_ix ix_list (pv 2) (pv 10) (fun _ _ => rfl)) (po_some (pe_op op_add (pv 11) pe_int)) po_none)))
      (pss_cons (ps_set (i := 13) scPlans.nd rfl (.inl rfl) (pe_lst (pa_cons (pe_op op_cat (pe_lst (pa_cons (pe_tup (pa_cons (pv 8) (pa_cons (pv 7) pa_nil))) pa_nil)) (pv 12)) (pa_cons (pv 12) (pa_cons (pe_op op_cat (pv 12) (pe_lst (pa_cons (pe_tup (pa_cons (pv 7) (pa_cons (pv 8) pa_nil))) (pa_cons (pe_tup (pa_cons (pv 7) (pa_cons (pv 8) pa_nil))) pa_nil)))) (pa_cons (pe_lst pa_nil) (pa_cons (pe_ix ix_list (pv 2) pe_int (fun _ _ => rfl)) pa_nil)))))))
      (pss_cons (ps_expr (pe_bm PySem.F.plainAttrs_list PySem.F.slot_list_append PySem.F.type_list_append mt_append (pv 13) (pa_cons (pe_op op_cat (pv 12) (pe_lst (pa_cons (pe_tup (pa_cons (pe_op op_mod (pe_op op_add (pv 7) pe_int) (pv 1)) (pa_cons (pv 7) pa_nil))) pa_nil))) pa_nil)))
      (pss_cons (ps_set (i := 9) scPlans.nd rfl (.inl rfl) (pe_op op_cat (pv 9) (pe_lc (own := [("_law_pairs", 6)]) (g := gName 6) (tt := tYes) (te := tOp rCat (tOp rCat (tSl (rSlL K) (tVar 2) tNoPart (tPart (tVar 10))) (tLst (tCons (tVar 6) tNil))) (tSl (rSlL K) (tVar 2) (tPart (tOp (rI0 fun i j => .int (i + j)) (tVar 10) (tC (.int 1)))) tNoPart)) rfl scPlans.nd (pi_list (pv 13)) (blkOk_by (N := ["_law_script", "_law_teams", "_law_plan_here", "_law_cell", "_law_by", "_law_renamed", "_law_pairs", "_law_one", "_law_other", "_law_found", "_law_at", "_law_place", "_law_rest", "_law_some", "_law_whole", "_law_drawn", "_law_k", "_law_first", "_law_game", "_law_turn"]) (sc := defScope t__law_plans) (by decide +kernel)) (fun _ _ _ _ _ => (pg_name (i := 6) scPlans.nd rfl (Or.inl rfl))) (fun _ _ _ _ _ => pts_nil) (fun _ _ _ _ _ => (pe_op op_cat (pe_op op_cat (pe_slice sl_list (pv 2) po_none (po_some (pv 10))) (pe_lst (pa_cons (pv 6) pa_nil))) (pe_slice sl_list (pv 2) (po_some (pe_op op_add (pv 10) pe_int)) po_none))))))
      (pss_cons (ps_set (i := 14) scPlans.nd rfl (.inl rfl) (pe_lst pa_nil))
      (pss_cons (ps_for PassesOwn.never rfl (pi_list (pv 2)) (pg_name (i := 6) scPlans.nd rfl (Or.inl rfl)) (pss_one (ps_set (i := 14) scPlans.nd rfl (.inl rfl) (pe_op op_cat (pv 14) (pv 6)))))
      (pss_cons (ps_set (i := 9) scPlans.nd rfl (.inl rfl) (pe_op op_cat (pv 9) (pe_lst (pa_cons (pe_op op_cat (pe_slice sl_list (pv 2) po_none (po_some (pv 10))) (pe_slice sl_list (pv 2) (po_some (pe_op op_add (pv 10) pe_int)) po_none)) (pa_cons (pe_op op_cat (pv 2) (pe_lst (pa_cons (pe_ix ix_list (pv 2) (pv 10) (fun _ _ => rfl)) pa_nil))) (pa_cons (pe_lst pa_nil) (pa_cons (pe_lst (pa_cons (pv 14) pa_nil)) pa_nil)))))))
      (pss_cons (ps_set (i := 15) scPlans.nd rfl (.inl rfl) (pe_lst pa_nil))
      (pss_cons (ps_for PassesOwn.never rfl (pi_range1 (by rfl) N.range (pa_cons (pe_op op_sub (pv 1) pe_int) pa_nil)) (pg_name (i := 16) scPlans.nd rfl (Or.inl rfl)) (pss_cons (ps_set (i := 17) scPlans.nd rfl (.inl rfl) (pe_f Fd hr (by decide) (by rfl) (pa_cons (pe_op op_add (pv 3) (pe_op op_mul pe_int (pv 16))) (pa_cons (pv 16) (pa_cons (pv 1) pa_nil)))))
      (pss_cons (ps_set (i := 18) scPlans.nd rfl (.inr rfl) (pe_tup (pa_cons (pv 17) (pa_cons (pe_op op_mod (pe_op op_add (pe_op op_add (pv 17) pe_int) (pe_f Fd hr (by decide) (by rfl) (pa_cons (pe_op op_add (pv 3) (pv 16)) (pa_cons pe_int (pa_cons (pe_op op_sub (pv 1) pe_int) pa_nil))))) (pv 1)) pa_nil))))
      (pss_one (ps_expr (pe_bm PySem.F.plainAttrs_list PySem.F.slot_list_append PySem.F.type_list_append mt_append (pv 15) (pa_cons (pe_lc (own := [("_law_turn", 19)]) (g := gName 19) (tt := tYes) (te := _) rfl scPlans.nd (pi_range1 (by rfl) N.range (pa_cons (pe_op op_fdiv (pv 1) pe_int) pa_nil)) (blkOk_by (N := ["_law_script", "_law_teams", "_law_plan_here", "_law_cell", "_law_by", "_law_renamed", "_law_pairs", "_law_one", "_law_other", "_law_found", "_law_at", "_law_place", "_law_rest", "_law_some", "_law_whole", "_law_drawn", "_law_k", "_law_first", "_law_game", "_law_turn"]) (sc := defScope t__law_plans) (by decide +kernel)) (fun _ _ _ _ _ => (pg_name (i := 19) scPlans.nd rfl (Or.inl rfl))) (fun _ _ _ _ _ => pts_nil) (fun _ _ _ _ _ => pv 18)) pa_nil)))))))
      (pss_one (ps_ret (pe_op op_cat (pv 9) (pe_lst (pa_cons (pv 15) pa_nil)))))))))))))))))))))), ?_⟩
    have t2 := T.two
    have len0 : (planOf t (t - 1).toNat).length = (t - 1).toNat := planOf_len _ _
    have v0 : ∀ row ∈ planOf t (t - 1).toNat, VRow t row := fun row hr => told_valid T hr
    have r0 : ∀ row ∈ planOf t (t - 1).toNat, row.length ≤ 24 := fun row hr => by
      obtain ⟨r, _, rfl⟩ := mem_plan hr
      exact Nat.le_trans (rowOf_len _ _ _) (by omega)
    have p0 : ∀ row ∈ planOf t (t - 1).toNat, 0 < row.length := fun row hr => told_pos T hr
    -- the told plan, a number
    refine ⟨.int t, rfl, t, rfl, T, by omega, fun H1 vp s1 hP => ?_⟩
    have hP := plan_lat.mp hP
    generalize planOf t (t - 1).toNat = P0 at *
    refine ⟨.ref a, rfl, a, ns, 1, rfl, s1.seq hS, by decide, fun c hc => ?_⟩
    have cb : bits20 c := by
      rcases hc with rfl | hc
      · show (0 : Int).natAbs.log2 ≤ _
        decide
      · exact hb c hc
    refine ⟨c, 4, rfl, cb, by decide, by decide, fun v H2 vn vb s2 => ⟨by show 2 ≤ sizeLine; decide, fun T2 nT2 => ?_⟩⟩
    have s3 := same_upd (o := .tup [.ref vp, .int v]) nT2
    refine ⟨T2, _, rfl, SqT.of upd_same, rfl, _, _, rfl, _, _, rfl, rfl, ?_⟩
    have s := (s1.trans s2).trans s3
    have hP := hP.mono monRow (s2.trans s3)
    generalize upd H2 T2 (.tup [.ref vp, .int v]) = H3 at s hP
    clear s1 s2 s3
    -- by
    have y0 := Int.emod_nonneg v (show t ≠ 0 by omega)
    have y1 := Int.emod_lt_of_pos v (show 0 < t by omega)
    refine ⟨.int v, rfl, .int t, rfl, v, t, rfl, rfl, (by show (0 : Int) < t; omega), ?_⟩
    -- renamed
    refine ⟨Nat.zero_le _, fun L nL => ?_⟩
    obtain ⟨vs, hv, av⟩ := hP.spot
    have vl := av.len
    refine ⟨.ref vp, rfl, vp, rfl, ⟨_, SqL.of (same_upd nL _ _ hv)⟩, for_list (K := K) (a := vp) (xs := vs) (fun i σ H' => ∃ y6, σ = [some (.ref a), some (.int t), some (.ref vp), some (.int v), some (.int (v % t)), some (.ref L), y6, none, none, none, none, none, none, none, none, none, none, none, none, none] ∧ Same H3 H' ∧ OAt RowAt H' L ((P0.map fun row => row.map fun p => ((p.1 + v % t) % t, (p.2 + v % t) % t)).take i))
      ⟨none, rfl, same_upd nL, OAt.new RowAt⟩ (fun i σ H' _ ⟨_, _, h, _⟩ => SqL.of (h _ _ hv)) ?_ ?_⟩
    · rintro i x σ H4 hx ⟨y6, rfl, s4, o4⟩
      obtain ⟨row, hrow, q1, us, rfl, hq, au⟩ := av.at hx
      have hrm := List.mem_of_getElem? hrow
      have hl := r0 row hrm
      obtain ⟨acc0, eL⟩ := o4.at
      have hq4 := s4 _ _ hq
      refine ⟨.ref L, rfl, .inl ⟨rfl, _, SqL.of eL⟩, .ref q1, rfl, q1, rfl, ⟨_, SqL.of hq4⟩, fun D nD => lc_list (K := K) (a := q1) (xs := us) (fun j H' => Same H4 H' ∧ OAt PairAt H' D ((row.map fun p => ((p.1 + v % t) % t, (p.2 + v % t) % t)).take j)) ⟨same_upd nD, OAt.new PairAt⟩ (fun j H' _ h => SqL.of (h.1 _ _ hq4)) ?_ ?_⟩
      · rintro j y H5 hy ⟨s5, o5⟩
        obtain ⟨p, hp, qp, rfl, hqp⟩ := au.at hy
        have hqp5 := s5 _ _ (s4 _ _ hqp)
        refine ⟨qp, _, rfl, SqT.of hqp5, rfl, _, _, rfl, _, _, rfl, rfl, rfl, ?_⟩
        refine ⟨_, rfl, _, rfl, p.1, _, rfl, rfl, .int t, rfl, _, t, rfl, rfl, (by show (0 : Int) < t; omega), _, rfl, _, rfl, p.2, _, rfl, rfl, .int t, rfl, _, t, rfl, rfl, (by show (0 : Int) < t; omega), by show 2 ≤ sizeLine; decide, fun T3 nT3 => ?_⟩
        obtain ⟨acc1, eD⟩ := o5.at
        have s6 := same_upd (o := .tup [.int ((p.1 + v % t) % t), .int ((p.2 + v % t) % t)]) nT3
        obtain ⟨acc2, ea, la, o6⟩ := (o5.keep monPair s6).push monPair (by rw [List.length_take, List.length_map]; omega) (pair_new eD nT3)
        refine ⟨acc2, ea, la, same_push nD (s5.trans s6), ?_⟩
        rw [take_snoc (x := ((p.1 + v % t) % t, (p.2 + v % t) % t)) (by rw [List.getElem?_map, hp]; rfl)]
        exact o6
      · rintro H5 ⟨s5, o5⟩
        have nDL : D ≠ L := (ne_of_none eL nD).symm
        have e5 := s5 _ _ eL
        rw [au.len, List.take_of_length_le (by rw [List.length_map]; exact Nat.le_refl _)] at o5
        obtain ⟨acc2, ea, la, o6⟩ := (o4.keep monRow s5).push monRow (by rw [List.length_take, List.length_map]; omega) (row_apart e5 nDL (o5.close monPair))
        refine ⟨L, acc2, .ref D, rfl, rfl, ea, la, _, rfl, same_push nL (s4.trans s5), ?_⟩
        rw [take_snoc (x := row.map fun p => ((p.1 + v % t) % t, (p.2 + v % t) % t)) (by rw [List.getElem?_map, hrow]; rfl)]
        exact o6
    rintro σ H4 ⟨y6, rfl, s4, o4⟩
    rw [vl, List.take_of_length_le (by rw [List.length_map]; exact Nat.le_refl _)] at o4
    have s := s.trans s4
    have hP := s4 _ _ hv
    have kP := av.up monRow s4
    obtain ⟨vE, hE, kE⟩ := (o4.close monRow).spot
    clear s4 av hv o4 nL
    -- the first four
    refine ⟨.ref vp, rfl, .ref vp, rfl, vp, vs, rfl, SqL.of hP, fun p101 n101 => ?_⟩
    obtain ⟨s101, x101⟩ := new_rev monRow n101 kP
    generalize upd H4 p101 (.lst vs.reverse) = H101 at s101 x101 ⊢
    have s := s.trans s101
    have hP := s101 _ _ hP
    have kP := kP.up monRow s101
    have hE := s101 _ _ hE
    have kE := kE.up monRow s101
    obtain ⟨vV, hV, kV⟩ := x101.spot
    clear s101 n101
    refine ⟨.ref vp, rfl, 1, rfl, vp, vs, rfl, SqL.of hP, fun p102 n102 => ?_⟩
    obtain ⟨s102, x102⟩ := new_from (i := 1) monRow n102 kP (by decide)
    generalize upd H101 p102 (.lst (cutV vs (some (1)) none)) = H102 at s102 x102 ⊢
    have s := s.trans s102
    have hP := s102 _ _ hP
    have kP := kP.up monRow s102
    have hE := s102 _ _ hE
    have kE := kE.up monRow s102
    have hV := s102 _ _ hV
    have kV := kV.up monRow s102
    obtain ⟨vA, hA, kA⟩ := x102.spot
    clear s102 n102
    refine ⟨.ref vp, rfl, 1, rfl, vp, vs, rfl, SqL.of hP, fun p103 n103 => ?_⟩
    obtain ⟨s103, x103⟩ := new_to (i := 1) monRow n103 kP (by decide)
    generalize upd H102 p103 (.lst (cutV vs none (some (1)))) = H103 at s103 x103 ⊢
    have s := s.trans s103
    have hP := s103 _ _ hP
    have kP := kP.up monRow s103
    have hE := s103 _ _ hE
    have kE := kE.up monRow s103
    have hV := s103 _ _ hV
    have kV := kV.up monRow s103
    have hA := s103 _ _ hA
    have kA := kA.up monRow s103
    obtain ⟨vB, hB, kB⟩ := x103.spot
    clear s103 n103
    refine ⟨p102, p103, vA, vB, rfl, rfl, hA, hB, cat_fits (by rw [kA.len, kB.len]; simp only [List.length_take, List.length_drop]; omega), fun p104 n104 => ?_⟩
    obtain ⟨s104, x104⟩ := new_cat monRow n104 kA kB
    generalize upd H103 p104 (.lst (vA ++ vB)) = H104 at s104 x104 ⊢
    have s := s.trans s104
    have hP := s104 _ _ hP
    have kP := kP.up monRow s104
    have hE := s104 _ _ hE
    have kE := kE.up monRow s104
    have hV := s104 _ _ hV
    have kV := kV.up monRow s104
    have hA := s104 _ _ hA
    have kA := kA.up monRow s104
    have hB := s104 _ _ hB
    have kB := kB.up monRow s104
    obtain ⟨vC, hC, kC⟩ := x104.spot
    clear s104 n104
    clear kA hA
    clear kB hB
    have kC : All2 (RowAt H104) vC (P0.drop 1 ++ P0.take 1) := kC
    refine ⟨p104, rfl, ⟨_, SqL.of hC⟩, fun D nD => lc_list (K := K) (a := p104) (xs := vC) (fun j H' => Same H104 H' ∧ OAt RowAt H' D (((P0.drop 1 ++ P0.take 1).map List.reverse).take j)) ⟨same_upd nD, OAt.new RowAt⟩ (fun j H' _ h => SqL.of (h.1 _ _ hC)) ?_ ?_⟩
    · rintro j y H9 hy ⟨s9, o9⟩
      obtain ⟨row, hrow, hr9⟩ := kC.at hy
      obtain ⟨qy, us, rfl, hqy, auy⟩ := hr9.mono s9
      refine ⟨rfl, .ref qy, rfl, qy, us, rfl, SqL.of hqy, fun p5 n5 => ?_⟩
      obtain ⟨s10, hrev⟩ := new_rev monPair n5 auy
      generalize upd H9 p5 (.lst us.reverse) = H10 at hrev s10 ⊢
      obtain ⟨acc, eD⟩ := o9.at
      obtain ⟨acc2, ea, la, o10⟩ := (o9.keep monRow s10).push monRow (by simp only [List.length_take, List.length_map, List.length_append, List.length_drop]; omega) (row_apart (s10 _ _ eD) (ne_of_none eD n5).symm hrev)
      refine ⟨acc2, ea, la, same_push nD (s9.trans s10), ?_⟩
      rw [take_snoc (x := row.reverse) (by rw [List.getElem?_map]; exact congrArg (Option.map List.reverse) hrow)]
      exact o10
    rintro H9 ⟨s9, o9⟩
    rw [kC.len, List.take_of_length_le (by rw [List.length_map]; exact Nat.le_refl _)] at o9
    have s := s.trans s9
    have hP := s9 _ _ hP
    have kP := kP.up monRow s9
    have hE := s9 _ _ hE
    have kE := kE.up monRow s9
    have hV := s9 _ _ hV
    have kV := kV.up monRow s9
    have hC := s9 _ _ hC
    have kC := kC.up monRow s9
    obtain ⟨vT, hT, kT⟩ := (o9.close monRow).spot
    clear s9 o9 nD
    clear kC hC
    refine ⟨.ref L, rfl, by show 4 ≤ sizeLine; decide, fun p105 n105 => ?_⟩
    obtain ⟨s105, x105⟩ := new_list monPlan n105 (.cons ⟨_, _, rfl, hP, kP⟩ (.cons ⟨_, _, rfl, hV, kV⟩ (.cons ⟨_, _, rfl, hT, kT⟩ (.cons ⟨_, _, rfl, hE, kE⟩ .nil))))
    generalize upd H9 p105 (.lst [.ref vp, .ref p101, .ref D, .ref L]) = H105 at s105 x105 ⊢
    have s := s.trans s105
    have hP := s105 _ _ hP
    have kP := kP.up monRow s105
    have hE := s105 _ _ hE
    have kE := kE.up monRow s105
    have hV := s105 _ _ hV
    have kV := kV.up monRow s105
    have hT := s105 _ _ hT
    have kT := kT.up monRow s105
    obtain ⟨vF, hF, kF⟩ := x105.spot
    clear s105 n105
    clear kV hV
    clear kT hT
    clear kE hE
    have f1 : ∀ row ∈ (P0.drop 1 ++ P0.take 1).map List.reverse, VRow t row ∧ row.length ≤ 24 := fun row hr => by
      obtain ⟨r', hr', rfl⟩ := List.mem_map.mp hr
      have hm : r' ∈ P0 := by
        rcases List.mem_append.mp hr' with h | h
        · exact List.mem_of_mem_drop h
        · exact List.mem_of_mem_take h
      exact ⟨(v0 _ hm).sub fun p hp => List.mem_reverse.mp hp, by rw [List.length_reverse]; exact r0 _ hm⟩
    have f2 : ∀ row ∈ P0.map fun row => row.map fun p => ((p.1 + v % t) % t, (p.2 + v % t) % t), VRow t row ∧ row.length ≤ 24 := fun row hr => by
      obtain ⟨r', hm, rfl⟩ := List.mem_map.mp hr
      refine ⟨fun p hp => ?_, by rw [List.length_map]; exact r0 _ hm⟩
      obtain ⟨p', hp', rfl⟩ := List.mem_map.mp hp
      obtain ⟨h1, h2, h3, h4, h5⟩ := v0 _ hm p' hp'
      exact shift_ne (by omega) h1 h2 h3 h4 h5 y0 y1
    have g0 : ∀ pl ∈ [P0, P0.reverse, (P0.drop 1 ++ P0.take 1).map List.reverse, P0.map fun row => row.map fun p => ((p.1 + v % t) % t, (p.2 + v % t) % t)], Fit t pl := by
      simp only [List.mem_cons, List.not_mem_nil, or_false]
      rintro pl (rfl | rfl | rfl | rfl)
      · exact fit_of 23 24 v0 (by omega) r0 (by decide) (by decide) (by decide)
      · exact fit_of 23 24 (fun row hr => v0 row (List.mem_reverse.mp hr)) (by rw [List.length_reverse]; omega) (fun row hr => r0 row (List.mem_reverse.mp hr)) (by decide) (by decide) (by decide)
      · exact fit_of 23 24 (fun row hr => (f1 row hr).1) (by simp only [List.length_map, List.length_append, List.length_drop, List.length_take]; omega) (fun row hr => (f1 row hr).2) (by decide) (by decide) (by decide)
      · exact fit_of 23 24 (fun row hr => (f2 row hr).1) (by rw [List.length_map]; omega) (fun row hr => (f2 row hr).2) (by decide) (by decide) (by decide)
    have w0 : [P0, P0.reverse, (P0.drop 1 ++ P0.take 1).map List.reverse, P0.map fun row => row.map fun p => ((p.1 + v % t) % t, (p.2 + v % t) % t)].length = 4 := rfl
    have w00 : [P0, P0.reverse, (P0.drop 1 ++ P0.take 1).map List.reverse, P0.map fun row => row.map fun p => ((p.1 + v % t) % t, (p.2 + v % t) % t)][0]? = some P0 := rfl
    generalize [P0, P0.reverse, (P0.drop 1 ++ P0.take 1).map List.reverse, P0.map fun row => row.map fun p => ((p.1 + v % t) % t, (p.2 + v % t) % t)] = F0 at kF g0 w0 w00
    clear f1 f2
    -- at, place
    have l0 : 0 < P0.length := by omega
    have at0 : 0 ≤ (v / 3 % ((vs.length : Nat) : Int)) := Int.emod_nonneg _ (by omega)
    have at1 : (v / 3 % ((vs.length : Nat) : Int)) < ((vs.length : Nat) : Int) := Int.emod_lt_of_pos _ (by omega)
    have atn : (v / 3 % ((vs.length : Nat) : Int)).toNat < P0.length := by omega
    have hrow : P0[(v / 3 % ((vs.length : Nat) : Int)).toNat]? = some P0[(v / 3 % ((vs.length : Nat) : Int)).toNat] := List.getElem?_eq_getElem atn
    have hmem : P0[(v / 3 % ((vs.length : Nat) : Int)).toNat] ∈ P0 := List.getElem_mem atn
    have rp := p0 _ hmem
    have rl := r0 _ hmem
    have rv := v0 _ hmem
    generalize P0[(v / 3 % ((vs.length : Nat) : Int)).toNat] = row at hrow hmem rp rl rv
    refine ⟨.int v, rfl, v, 3, rfl, rfl, ⟨by decide, by decide⟩, .ref vp, rfl, vp, vs, rfl, .inl (SqL.of hP), v / 3, ((vs.length : Nat) : Int), rfl, rfl, (by show (0 : Int) < ((vs.length : Nat) : Int); omega), ?_⟩
    obtain ⟨wR, iR, qr, us, eR, hR, kR⟩ := ix_lat kP at0 hrow
    subst eR
    have ul := kR.len
    refine ⟨.int v, rfl, v, 7, rfl, rfl, ⟨by decide, by decide⟩, .ref vp, rfl, .int (v / 3 % ((vs.length : Nat) : Int)), rfl, vp, vs, (v / 3 % ((vs.length : Nat) : Int)), .ref qr, rfl, rfl, SqL.of hP, iR, qr, us, rfl, .inl (SqL.of hR), v / 7, ((us.length : Nat) : Int), rfl, rfl, (by show (0 : Int) < ((us.length : Nat) : Int); omega), ?_⟩
    have pl0 : 0 ≤ (v / 7 % ((us.length : Nat) : Int)) := Int.emod_nonneg _ (by omega)
    have pl1 : (v / 7 % ((us.length : Nat) : Int)) < ((us.length : Nat) : Int) := Int.emod_lt_of_pos _ (by omega)
    have pln : (v / 7 % ((us.length : Nat) : Int)).toNat < row.length := by omega
    have hp : row[(v / 7 % ((us.length : Nat) : Int)).toNat]? = some row[(v / 7 % ((us.length : Nat) : Int)).toNat] := List.getElem?_eq_getElem pln
    have pv := rv _ (List.getElem_mem pln)
    generalize row[(v / 7 % ((us.length : Nat) : Int)).toNat] = p at hp pv
    obtain ⟨wp, iP, q2, rfl, hq2⟩ := ix_lat kR pl0 hp
    refine ⟨.ref vp, rfl, .int (v / 3 % ((vs.length : Nat) : Int)), rfl, vp, vs, (v / 3 % ((vs.length : Nat) : Int)), .ref qr, rfl, rfl, SqL.of hP, iR, .int (v / 7 % ((us.length : Nat) : Int)), rfl, qr, us, (v / 7 % ((us.length : Nat) : Int)), .ref q2, rfl, rfl, SqL.of hR, iP, q2, _, rfl, SqT.of hq2, rfl, _, _, rfl, _, _, rfl, rfl, ?_⟩
    clear hq2
    -- rest
    refine ⟨.ref vp, rfl, .int (v / 3 % ((vs.length : Nat) : Int)), rfl, vp, vs, (v / 3 % ((vs.length : Nat) : Int)), .ref qr, rfl, rfl, SqL.of hP, iR, .int (v / 7 % ((us.length : Nat) : Int)), rfl, (v / 7 % ((us.length : Nat) : Int)), rfl, qr, us, rfl, SqL.of hR, fun p106 n106 => ?_⟩
    obtain ⟨s106, x106⟩ := new_to (i := (v / 7 % ((us.length : Nat) : Int))) monPair n106 kR pl0
    generalize upd H105 p106 (.lst (cutV us none (some ((v / 7 % ((us.length : Nat) : Int)))))) = H106 at s106 x106 ⊢
    have s := s.trans s106
    have hP := s106 _ _ hP
    have kP := kP.up monRow s106
    have hF := s106 _ _ hF
    have kF := kF.up monPlan s106
    have hR := s106 _ _ hR
    have kR := kR.up monPair s106
    obtain ⟨vA, hA, kA⟩ := x106.spot
    clear s106 n106
    refine ⟨.ref vp, rfl, .int (v / 3 % ((vs.length : Nat) : Int)), rfl, vp, vs, (v / 3 % ((vs.length : Nat) : Int)), .ref qr, rfl, rfl, SqL.of hP, iR, .int (v / 7 % ((us.length : Nat) : Int)), rfl, (v / 7 % ((us.length : Nat) : Int)), 1, rfl, rfl, (v / 7 % ((us.length : Nat) : Int)) + 1, rfl, qr, us, rfl, SqL.of hR, fun p107 n107 => ?_⟩
    obtain ⟨s107, x107⟩ := new_from (i := (v / 7 % ((us.length : Nat) : Int)) + 1) monPair n107 kR (by omega)
    generalize upd H106 p107 (.lst (cutV us (some ((v / 7 % ((us.length : Nat) : Int)) + 1)) none)) = H107 at s107 x107 ⊢
    have s := s.trans s107
    have hP := s107 _ _ hP
    have kP := kP.up monRow s107
    have hF := s107 _ _ hF
    have kF := kF.up monPlan s107
    have hR := s107 _ _ hR
    have kR := kR.up monPair s107
    have hA := s107 _ _ hA
    have kA := kA.up monPair s107
    obtain ⟨vB, hB, kB⟩ := x107.spot
    clear s107 n107
    refine ⟨p106, p107, vA, vB, rfl, rfl, hA, hB, cat_fits (by rw [kA.len, kB.len]; simp only [List.length_take, List.length_drop]; omega), fun p108 n108 => ?_⟩
    obtain ⟨s108, x108⟩ := new_cat monPair n108 kA kB
    generalize upd H107 p108 (.lst (vA ++ vB)) = H108 at s108 x108 ⊢
    have s := s.trans s108
    have hP := s108 _ _ hP
    have kP := kP.up monRow s108
    have hF := s108 _ _ hF
    have kF := kF.up monPlan s108
    have hR := s108 _ _ hR
    have kR := kR.up monPair s108
    have hA := s108 _ _ hA
    have kA := kA.up monPair s108
    have hB := s108 _ _ hB
    have kB := kB.up monPair s108
    obtain ⟨vS, hS, kS⟩ := x108.spot
    clear s108 n108
    clear kA hA
    clear kB hB
    have vrest : VRow t (row.take (v / 7 % ((us.length : Nat) : Int)).toNat ++ row.drop ((v / 7 % ((us.length : Nat) : Int)) + 1).toNat) := (rv.sub fun _ h => List.mem_of_mem_take h).app (rv.sub fun _ h => List.mem_of_mem_drop h)
    have lrest : (row.take (v / 7 % ((us.length : Nat) : Int)).toNat ++ row.drop ((v / 7 % ((us.length : Nat) : Int)) + 1).toNat).length ≤ 24 := by simp only [List.length_append, List.length_take, List.length_drop]; omega
    generalize row.take (v / 7 % ((us.length : Nat) : Int)).toNat ++ row.drop ((v / 7 % ((us.length : Nat) : Int)) + 1).toNat = rest at kS vrest lrest
    -- some
    refine ⟨.int p.2, rfl, .int p.1, rfl, by show 2 ≤ sizeLine; decide, fun t109 n109 => ?_⟩
    have s109 := same_upd (o := .tup [.int (p.2), .int (p.1)]) n109
    have pa109 : PairAt (upd H108 t109 (.tup [.int (p.2), .int (p.1)])) (.ref t109) ((p.2), (p.1)) := ⟨t109, rfl, upd_same⟩
    generalize upd H108 t109 (.tup [.int (p.2), .int (p.1)]) = H109 at s109 pa109 ⊢
    have s := s.trans s109
    have hP := s109 _ _ hP
    have kP := kP.up monRow s109
    have hF := s109 _ _ hF
    have kF := kF.up monPlan s109
    have hR := s109 _ _ hR
    have kR := kR.up monPair s109
    have hS := s109 _ _ hS
    have kS := kS.up monPair s109
    refine ⟨by show 1 ≤ sizeLine; decide, fun p110 n110 => ?_⟩
    obtain ⟨s110, x110⟩ := new_list monPair n110 (.cons pa109 .nil)
    generalize upd H109 p110 (.lst [.ref t109]) = H110 at s110 x110 ⊢
    have s := s.trans s110
    have hP := s110 _ _ hP
    have kP := kP.up monRow s110
    have hF := s110 _ _ hF
    have kF := kF.up monPlan s110
    have hR := s110 _ _ hR
    have kR := kR.up monPair s110
    have hS := s110 _ _ hS
    have kS := kS.up monPair s110
    obtain ⟨vA, hA, kA⟩ := x110.spot
    clear s110 n110
    refine ⟨.ref p108, rfl, p110, p108, vA, vS, rfl, rfl, hA, hS, cat_fits (by rw [kA.len, kS.len]; show 1 + rest.length ≤ 5000; omega), fun p111 n111 => ?_⟩
    obtain ⟨s111, x111⟩ := new_cat monPair n111 kA kS
    generalize upd H110 p111 (.lst (vA ++ vS)) = H111 at s111 x111 ⊢
    have s := s.trans s111
    have hP := s111 _ _ hP
    have kP := kP.up monRow s111
    have hF := s111 _ _ hF
    have kF := kF.up monPlan s111
    have hR := s111 _ _ hR
    have kR := kR.up monPair s111
    have hS := s111 _ _ hS
    have kS := kS.up monPair s111
    have hA := s111 _ _ hA
    have kA := kA.up monPair s111
    obtain ⟨vX, hX, kX⟩ := x111.spot
    clear s111 n111
    clear kA hA
    refine ⟨.ref p108, rfl, .ref p108, rfl, .int p.1, rfl, .int p.2, rfl, by show 2 ≤ sizeLine; decide, fun t112 n112 => ?_⟩
    have s112 := same_upd (o := .tup [.int (p.1), .int (p.2)]) n112
    have pa112 : PairAt (upd H111 t112 (.tup [.int (p.1), .int (p.2)])) (.ref t112) ((p.1), (p.2)) := ⟨t112, rfl, upd_same⟩
    generalize upd H111 t112 (.tup [.int (p.1), .int (p.2)]) = H112 at s112 pa112 ⊢
    have s := s.trans s112
    have hP := s112 _ _ hP
    have kP := kP.up monRow s112
    have hF := s112 _ _ hF
    have kF := kF.up monPlan s112
    have hR := s112 _ _ hR
    have kR := kR.up monPair s112
    have hS := s112 _ _ hS
    have kS := kS.up monPair s112
    have hX := s112 _ _ hX
    have kX := kX.up monPair s112
    refine ⟨.int p.1, rfl, .int p.2, rfl, by show 2 ≤ sizeLine; decide, fun t113 n113 => ?_⟩
    have s113 := same_upd (o := .tup [.int (p.1), .int (p.2)]) n113
    have pa113 : PairAt (upd H112 t113 (.tup [.int (p.1), .int (p.2)])) (.ref t113) ((p.1), (p.2)) := ⟨t113, rfl, upd_same⟩
    generalize upd H112 t113 (.tup [.int (p.1), .int (p.2)]) = H113 at s113 pa113 ⊢
    have s := s.trans s113
    have hP := s113 _ _ hP
    have kP := kP.up monRow s113
    have hF := s113 _ _ hF
    have kF := kF.up monPlan s113
    have hR := s113 _ _ hR
    have kR := kR.up monPair s113
    have hS := s113 _ _ hS
    have kS := kS.up monPair s113
    have hX := s113 _ _ hX
    have kX := kX.up monPair s113
    refine ⟨by show 2 ≤ sizeLine; decide, fun p114 n114 => ?_⟩
    obtain ⟨s114, x114⟩ := new_list monPair n114 (.cons (pa112.mono s113) (.cons pa113 .nil))
    generalize upd H113 p114 (.lst [.ref t112, .ref t113]) = H114 at s114 x114 ⊢
    have s := s.trans s114
    have hP := s114 _ _ hP
    have kP := kP.up monRow s114
    have hF := s114 _ _ hF
    have kF := kF.up monPlan s114
    have hR := s114 _ _ hR
    have kR := kR.up monPair s114
    have hS := s114 _ _ hS
    have kS := kS.up monPair s114
    have hX := s114 _ _ hX
    have kX := kX.up monPair s114
    obtain ⟨vA, hA, kA⟩ := x114.spot
    clear s114 n114
    refine ⟨p108, p114, vS, vA, rfl, rfl, hS, hA, cat_fits (by rw [kS.len, kA.len]; show rest.length + 2 ≤ 5000; omega), fun p115 n115 => ?_⟩
    obtain ⟨s115, x115⟩ := new_cat monPair n115 kS kA
    generalize upd H114 p115 (.lst (vS ++ vA)) = H115 at s115 x115 ⊢
    have s := s.trans s115
    have hP := s115 _ _ hP
    have kP := kP.up monRow s115
    have hF := s115 _ _ hF
    have kF := kF.up monPlan s115
    have hR := s115 _ _ hR
    have kR := kR.up monPair s115
    have hS := s115 _ _ hS
    have kS := kS.up monPair s115
    have hX := s115 _ _ hX
    have kX := kX.up monPair s115
    have hA := s115 _ _ hA
    have kA := kA.up monPair s115
    obtain ⟨vY, hY, kY⟩ := x115.spot
    clear s115 n115
    clear kA hA
    refine ⟨by show 0 ≤ sizeLine; decide, fun p116 n116 => ?_⟩
    obtain ⟨s116, x116⟩ := new_list monPair n116 (.nil)
    generalize upd H115 p116 (.lst []) = H116 at s116 x116 ⊢
    have s := s.trans s116
    have hP := s116 _ _ hP
    have kP := kP.up monRow s116
    have hF := s116 _ _ hF
    have kF := kF.up monPlan s116
    have hR := s116 _ _ hR
    have kR := kR.up monPair s116
    have hS := s116 _ _ hS
    have kS := kS.up monPair s116
    have hX := s116 _ _ hX
    have kX := kX.up monPair s116
    have hY := s116 _ _ hY
    have kY := kY.up monPair s116
    obtain ⟨vZ, hZ, kZ⟩ := x116.spot
    clear s116 n116
    have h00 : P0[(0 : Int).toNat]? = some P0[0] := List.getElem?_eq_getElem l0
    have m00 : P0[0] ∈ P0 := List.getElem_mem l0
    have v00 := v0 _ m00
    have r00 := r0 _ m00
    generalize P0[0] = row0 at h00 m00 v00 r00
    obtain ⟨w0', i0', q0', us0, e0', hU, kU⟩ := ix_lat kP (by decide) h00
    subst e0'
    refine ⟨.ref vp, rfl, vp, vs, 0, .ref q0', rfl, rfl, SqL.of hP, i0', by show 5 ≤ sizeLine; decide, fun W nW => ?_⟩
    have oW : OAt RowAt (upd H116 W (.lst [.ref p111, .ref p108, .ref p115, .ref p116, .ref q0'])) W [(p.2, p.1) :: rest, rest, rest ++ [(p.1, p.2), (p.1, p.2)], [], row0] := OAt.make monRow nW (.cons ⟨_, _, rfl, hX, kX⟩ (.cons ⟨_, _, rfl, hS, kS⟩ (.cons ⟨_, _, rfl, hY, kY⟩ (.cons ⟨_, _, rfl, hZ, kZ⟩ (.cons ⟨_, _, rfl, hU, kU⟩ .nil)))))
    have sW := same_upd (o := .lst [.ref p111, .ref p108, .ref p115, .ref p116, .ref q0']) nW
    generalize upd H116 W (.lst [.ref p111, .ref p108, .ref p115, .ref p116, .ref q0']) = HW at oW sW ⊢
    clear kX hX
    clear kY hY
    clear kZ hZ
    clear hU kU
    have hPB := hP
    have kPB := kP
    have hFB := hF
    have kFB := kF
    have hRB := hR
    have kRB := kR
    have hSB := hS
    have kSB := kS
    have sHB := s
    have sB := Same.refl H116
    have s := s.trans sW
    have sB := sB.trans sW
    have hP := sW _ _ hP
    have kP := kP.up monRow sW
    have hF := sW _ _ hF
    have kF := kF.up monPlan sW
    have hR := sW _ _ hR
    have kR := kR.up monPair sW
    have hS := sW _ _ hS
    have kS := kS.up monPair sW
    clear sW
    refine ⟨.ref W, rfl, .inl ⟨rfl, _, SqL.of oW.at.choose_spec⟩, .ref p108, rfl, .int p.1, rfl, p.1, 1, rfl, rfl, .int t, rfl, p.1 + 1, t, rfl, rfl, (by show (0 : Int) < t; omega), .int p.1, rfl, by show 2 ≤ sizeLine; decide, fun t117 n117 => ?_⟩
    have s117 := same_upd (o := .tup [.int ((p.1 + 1) % t), .int (p.1)]) n117
    have pa117 : PairAt (upd HW t117 (.tup [.int ((p.1 + 1) % t), .int (p.1)])) (.ref t117) (((p.1 + 1) % t), (p.1)) := ⟨t117, rfl, upd_same⟩
    generalize upd HW t117 (.tup [.int ((p.1 + 1) % t), .int (p.1)]) = H117 at s117 pa117 ⊢
    have s := s.trans s117
    have sB := sB.trans s117
    have oW := oW.keep monRow s117
    have hP := s117 _ _ hP
    have kP := kP.up monRow s117
    have hF := s117 _ _ hF
    have kF := kF.up monPlan s117
    have hR := s117 _ _ hR
    have kR := kR.up monPair s117
    have hS := s117 _ _ hS
    have kS := kS.up monPair s117
    refine ⟨by show 1 ≤ sizeLine; decide, fun p118 n118 => ?_⟩
    have neAW : p118 ≠ W := (ne_of_none oW.at.choose_spec n118).symm
    obtain ⟨s118, x118⟩ := new_list monPair n118 (.cons pa117 .nil)
    generalize upd H117 p118 (.lst [.ref t117]) = H118 at s118 x118 ⊢
    have s := s.trans s118
    have sB := sB.trans s118
    have oW := oW.keep monRow s118
    have hP := s118 _ _ hP
    have kP := kP.up monRow s118
    have hF := s118 _ _ hF
    have kF := kF.up monPlan s118
    have hR := s118 _ _ hR
    have kR := kR.up monPair s118
    have hS := s118 _ _ hS
    have kS := kS.up monPair s118
    obtain ⟨vA, hA, kA⟩ := x118.spot
    clear s118 n118
    refine ⟨p108, p118, vS, vA, rfl, rfl, hS, hA, cat_fits (by rw [kS.len, kA.len]; show rest.length + 1 ≤ 5000; omega), fun p119 n119 => ?_⟩
    have neNW : p119 ≠ W := (ne_of_none oW.at.choose_spec n119).symm
    obtain ⟨s119, x119⟩ := new_cat monPair n119 kS kA
    generalize upd H118 p119 (.lst (vS ++ vA)) = H119 at s119 x119 ⊢
    have s := s.trans s119
    have sB := sB.trans s119
    have oW := oW.keep monRow s119
    have hP := s119 _ _ hP
    have kP := kP.up monRow s119
    have hF := s119 _ _ hF
    have kF := kF.up monPlan s119
    have hR := s119 _ _ hR
    have kR := kR.up monPair s119
    have hS := s119 _ _ hS
    have kS := kS.up monPair s119
    have hA := s119 _ _ hA
    have kA := kA.up monPair s119
    obtain ⟨vN, hN, kN⟩ := x119.spot
    clear s119 n119
    obtain ⟨acc3, ea3, la3, oW3⟩ := oW.push monRow (by show 5 ≤ 5000; decide) (row_apart oW.at.choose_spec neNW ⟨_, _, rfl, hN, kN⟩)
    refine ⟨W, acc3, .ref p119, rfl, rfl, ea3, la3, ?_⟩
    have sB := same_push (o := .lst (acc3 ++ [.ref p119])) nW sB
    generalize upd H119 W (.lst (acc3 ++ [.ref p119])) = HX at sB oW3 ⊢
    have s := sHB.trans sB
    clear kA hA kN hN oW ea3 la3
    have hP := sB _ _ hPB
    have kP := kPB.up monRow sB
    clear hPB kPB
    have hF := sB _ _ hFB
    have kF := kFB.up monPlan sB
    clear hFB kFB
    have hR := sB _ _ hRB
    have kR := kRB.up monPair sB
    clear hRB kRB
    have hS := sB _ _ hSB
    have kS := kSB.up monPair sB
    clear hSB kSB
    clear sB sHB nW neAW neNW
    have oW3 : OAt RowAt HX W [(p.2, p.1) :: rest, rest, rest ++ [(p.1, p.2), (p.1, p.2)], [], row0, rest ++ [((p.1 + 1) % t, p.1)]] := oW3
    obtain ⟨vW, hW, kW⟩ := (oW3.close monRow).spot
    clear oW3
    obtain ⟨v1, v2, v3, v4, v5⟩ := pv
    have e1 := turn_ne (z := 0) t2 v1 v2 (by omega) (by omega)
    rw [Int.add_zero] at e1
    have g1 : ∀ z ∈ [(p.2, p.1) :: rest, rest, rest ++ [(p.1, p.2), (p.1, p.2)], [], row0, rest ++ [((p.1 + 1) % t, p.1)]], VRow t z ∧ z.length ≤ 26 := by
      simp only [List.mem_cons, List.not_mem_nil, or_false]
      rintro z (rfl | rfl | rfl | rfl | rfl | rfl)
      · exact ⟨(VRow.one ⟨v3, v4, v1, v2, fun e => v5 e.symm⟩).app vrest, by rw [List.length_cons]; omega⟩
      · exact ⟨vrest, by omega⟩
      · exact ⟨vrest.app ((VRow.one ⟨v1, v2, v3, v4, v5⟩).app (VRow.one ⟨v1, v2, v3, v4, v5⟩)), by rw [List.length_append]; show rest.length + 2 ≤ 26; omega⟩
      · exact ⟨VRow.nil, by decide⟩
      · exact ⟨v00, by omega⟩
      · exact ⟨vrest.app (VRow.one ⟨e1.1, e1.2.1, v1, v2, fun e => e1.2.2 e.symm⟩), by rw [List.length_append]; show rest.length + 1 ≤ 26; omega⟩
    have w6 : [(p.2, p.1) :: rest, rest, rest ++ [(p.1, p.2), (p.1, p.2)], [], row0, rest ++ [((p.1 + 1) % t, p.1)]].length = 6 := rfl
    generalize [(p.2, p.1) :: rest, rest, rest ++ [(p.1, p.2), (p.1, p.2)], [], row0, rest ++ [((p.1 + 1) % t, p.1)]] = six at kW g1 w6
    -- a row in the place of one
    refine ⟨.ref p105, rfl, .ref W, rfl, W, rfl, ⟨_, SqL.of hW⟩, fun D nD => lc_list (K := K) (a := W) (xs := vW) (fun j H' => Same HX H' ∧ OAt PlanV H' D ((six.map (fun z => P0.take (v / 3 % ((vs.length : Nat) : Int)).toNat ++ [z] ++ P0.drop ((v / 3 % ((vs.length : Nat) : Int)) + 1).toNat)).take j)) ⟨same_upd nD, OAt.new PlanV⟩ (fun j H' _ h => SqL.of (h.1 _ _ hW)) ?_ ?_⟩
    · rintro j y H9 hy ⟨s9, o9⟩
      obtain ⟨z, hz, yO⟩ := kW.at hy
      have zm := List.mem_of_getElem? hz
      have yO : Off RowAt D H9 y z := monRow.up _ _ _ _ (same_apart nD s9) yO
      have hP := s9 _ _ hP
      have kP : All2 (Off RowAt D H9) vs P0 := kP.mono fun _ _ => monRow.up _ _ _ _ (same_apart nD s9)
      refine ⟨rfl, .ref vp, rfl, .int (v / 3 % ((vs.length : Nat) : Int)), rfl, (v / 3 % ((vs.length : Nat) : Int)), rfl, vp, vs, rfl, SqL.of hP, fun p120 n120 => ?_⟩
      have neAD : p120 ≠ D := (ne_of_none o9.at.choose_spec n120).symm
      obtain ⟨s120, x120⟩ := new_to (i := (v / 3 % ((vs.length : Nat) : Int))) (monOff monRow D) n120 kP at0
      generalize upd H9 p120 (.lst (cutV vs none (some ((v / 3 % ((vs.length : Nat) : Int)))))) = H120 at s120 x120 ⊢
      have s9 := s9.trans s120
      have o9 := o9.keep monPlan s120
      have yO := (monOff monRow D).up _ _ _ _ s120 yO
      have hP := s120 _ _ hP
      have kP := kP.up (monOff monRow D) s120
      obtain ⟨vA, hA, kA⟩ := x120.spot
      clear s120 n120
      refine ⟨y, rfl, by show 1 ≤ sizeLine; decide, fun p121 n121 => ?_⟩
      have neQD : p121 ≠ D := (ne_of_none o9.at.choose_spec n121).symm
      obtain ⟨s121, x121⟩ := new_list (monOff monRow D) n121 (.cons yO .nil)
      generalize upd H120 p121 (.lst [y]) = H121 at s121 x121 ⊢
      have s9 := s9.trans s121
      have o9 := o9.keep monPlan s121
      have yO := (monOff monRow D).up _ _ _ _ s121 yO
      have hP := s121 _ _ hP
      have kP := kP.up (monOff monRow D) s121
      have hA := s121 _ _ hA
      have kA := kA.up (monOff monRow D) s121
      obtain ⟨vQ, hQ, kQ⟩ := x121.spot
      clear s121 n121
      refine ⟨p120, p121, vA, vQ, rfl, rfl, hA, hQ, cat_fits (by rw [kA.len, kQ.len]; rw [List.length_take]; show _ + 1 ≤ 5000; omega), fun p122 n122 => ?_⟩
      have neBD : p122 ≠ D := (ne_of_none o9.at.choose_spec n122).symm
      obtain ⟨s122, x122⟩ := new_cat (monOff monRow D) n122 kA kQ
      generalize upd H121 p122 (.lst (vA ++ vQ)) = H122 at s122 x122 ⊢
      have s9 := s9.trans s122
      have o9 := o9.keep monPlan s122
      have yO := (monOff monRow D).up _ _ _ _ s122 yO
      have hP := s122 _ _ hP
      have kP := kP.up (monOff monRow D) s122
      have hA := s122 _ _ hA
      have kA := kA.up (monOff monRow D) s122
      have hQ := s122 _ _ hQ
      have kQ := kQ.up (monOff monRow D) s122
      obtain ⟨vB, hB, kB⟩ := x122.spot
      clear s122 n122
      refine ⟨.ref vp, rfl, .int (v / 3 % ((vs.length : Nat) : Int)), rfl, (v / 3 % ((vs.length : Nat) : Int)), 1, rfl, rfl, (v / 3 % ((vs.length : Nat) : Int)) + 1, rfl, vp, vs, rfl, SqL.of hP, fun p123 n123 => ?_⟩
      have neCD : p123 ≠ D := (ne_of_none o9.at.choose_spec n123).symm
      obtain ⟨s123, x123⟩ := new_from (i := (v / 3 % ((vs.length : Nat) : Int)) + 1) (monOff monRow D) n123 kP (by omega)
      generalize upd H122 p123 (.lst (cutV vs (some ((v / 3 % ((vs.length : Nat) : Int)) + 1)) none)) = H123 at s123 x123 ⊢
      have s9 := s9.trans s123
      have o9 := o9.keep monPlan s123
      have yO := (monOff monRow D).up _ _ _ _ s123 yO
      have hP := s123 _ _ hP
      have kP := kP.up (monOff monRow D) s123
      have hA := s123 _ _ hA
      have kA := kA.up (monOff monRow D) s123
      have hQ := s123 _ _ hQ
      have kQ := kQ.up (monOff monRow D) s123
      have hB := s123 _ _ hB
      have kB := kB.up (monOff monRow D) s123
      obtain ⟨vC, hC, kC⟩ := x123.spot
      clear s123 n123
      refine ⟨p122, p123, vB, vC, rfl, rfl, hB, hC, cat_fits (by rw [kB.len, kC.len]; simp only [List.length_append, List.length_take, List.length_drop, List.length_cons, List.length_nil]; omega), fun p124 n124 => ?_⟩
      have neGD : p124 ≠ D := (ne_of_none o9.at.choose_spec n124).symm
      obtain ⟨s124, x124⟩ := new_cat (monOff monRow D) n124 kB kC
      generalize upd H123 p124 (.lst (vB ++ vC)) = H124 at s124 x124 ⊢
      have s9 := s9.trans s124
      have o9 := o9.keep monPlan s124
      have yO := (monOff monRow D).up _ _ _ _ s124 yO
      have hP := s124 _ _ hP
      have kP := kP.up (monOff monRow D) s124
      have hA := s124 _ _ hA
      have kA := kA.up (monOff monRow D) s124
      have hQ := s124 _ _ hQ
      have kQ := kQ.up (monOff monRow D) s124
      have hB := s124 _ _ hB
      have kB := kB.up (monOff monRow D) s124
      have hC := s124 _ _ hC
      have kC := kC.up (monOff monRow D) s124
      obtain ⟨vG, hG, kG⟩ := x124.spot
      clear s124 n124
      obtain ⟨acc4, ea4, la4, o4⟩ := o9.push monPlan (by rw [List.length_take, List.length_map]; omega) (LAt.land neGD ⟨_, _, rfl, hG, kG⟩)
      refine ⟨acc4, ea4, la4, same_push nD s9, ?_⟩
      rw [take_snoc (x := (fun z => P0.take (v / 3 % ((vs.length : Nat) : Int)).toNat ++ [z] ++ P0.drop ((v / 3 % ((vs.length : Nat) : Int)) + 1).toNat) z) (by rw [List.getElem?_map]; exact congrArg (Option.map _) hz)]
      exact o4
    rintro H9 ⟨s9, o9⟩
    rw [kW.len, List.take_of_length_le (by rw [List.length_map]; exact Nat.le_refl _)] at o9
    have s := s.trans s9
    have hP := s9 _ _ hP
    have kP := kP.up monRow s9
    have hF := s9 _ _ hF
    have kF := kF.up monPlan s9
    have hR := s9 _ _ hR
    have kR := kR.up monPair s9
    have hS := s9 _ _ hS
    have kS := kS.up monPair s9
    have hW := s9 _ _ hW
    have kW := kW.up monRow s9
    obtain ⟨vM, hM, kM⟩ := (o9.close monPlan).spot
    clear s9 o9 nD
    refine ⟨p105, D, vF, vM, rfl, rfl, hF, hM, cat_fits (by rw [kF.len, kM.len]; rw [w0, List.length_map, w6]; decide), fun p125 n125 => ?_⟩
    obtain ⟨s125, x125⟩ := new_cat monPlan n125 kF kM
    generalize upd H9 p125 (.lst (vF ++ vM)) = H125 at s125 x125 ⊢
    have s := s.trans s125
    have hP := s125 _ _ hP
    have kP := kP.up monRow s125
    have hF := s125 _ _ hF
    have kF := kF.up monPlan s125
    have hR := s125 _ _ hR
    have kR := kR.up monPair s125
    have hS := s125 _ _ hS
    have kS := kS.up monPair s125
    have hW := s125 _ _ hW
    have kW := kW.up monRow s125
    have hM := s125 _ _ hM
    have kM := kM.up monPlan s125
    obtain ⟨vG, hG, kG⟩ := x125.spot
    clear s125 n125
    clear kF hF
    clear kM hM
    clear kW hW
    have g2 : ∀ pl ∈ F0 ++ six.map (fun z => P0.take (v / 3 % ((vs.length : Nat) : Int)).toNat ++ [z] ++ P0.drop ((v / 3 % ((vs.length : Nat) : Int)) + 1).toNat), Fit t pl := fun pl hm => by
      rcases List.mem_append.mp hm with h | h
      · exact g0 pl h
      · obtain ⟨z, hz, rfl⟩ := List.mem_map.mp h
        have gz := g1 z hz
        have rows : ∀ r ∈ P0.take (v / 3 % ((vs.length : Nat) : Int)).toNat ++ [z] ++ P0.drop ((v / 3 % ((vs.length : Nat) : Int)) + 1).toNat, VRow t r ∧ r.length ≤ 26 := fun r hr => by
          rcases List.mem_append.mp hr with h | h
          · rcases List.mem_append.mp h with h | h
            · have := List.mem_of_mem_take h
              exact ⟨v0 _ this, Nat.le_trans (r0 _ this) (by decide)⟩
            · rw [List.mem_singleton.mp h]
              exact gz
          · have := List.mem_of_mem_drop h
            exact ⟨v0 _ this, Nat.le_trans (r0 _ this) (by decide)⟩
        exact fit_of 23 26 (fun r hr => (rows r hr).1) (by simp only [List.length_append, List.length_take, List.length_drop, List.length_cons, List.length_nil]; omega) (fun r hr => (rows r hr).2) (by decide) (by decide) (by decide)
    have w1 : (F0 ++ six.map (fun z => P0.take (v / 3 % ((vs.length : Nat) : Int)).toNat ++ [z] ++ P0.drop ((v / 3 % ((vs.length : Nat) : Int)) + 1).toNat)).length = 10 := by rw [List.length_append, w0, List.length_map, w6]
    have w10 : (F0 ++ six.map (fun z => P0.take (v / 3 % ((vs.length : Nat) : Int)).toNat ++ [z] ++ P0.drop ((v / 3 % ((vs.length : Nat) : Int)) + 1).toNat))[0]? = some P0 := by rw [List.getElem?_append_left (by omega)]; exact w00
    generalize F0 ++ six.map (fun z => P0.take (v / 3 % ((vs.length : Nat) : Int)).toNat ++ [z] ++ P0.drop ((v / 3 % ((vs.length : Nat) : Int)) + 1).toNat) = F1 at kG g2 w1 w10
    clear g0 g1 w0 w6 w00
    -- all in one
    refine ⟨by show 0 ≤ sizeLine; decide, fun p126 n126 => ?_⟩
    obtain ⟨s126, x126⟩ := new_list monPair n126 (.nil)
    generalize upd H125 p126 (.lst []) = H126 at s126 x126 ⊢
    have s := s.trans s126
    have hP := s126 _ _ hP
    have kP := kP.up monRow s126
    have hR := s126 _ _ hR
    have kR := kR.up monPair s126
    have hS := s126 _ _ hS
    have kS := kS.up monPair s126
    have hG := s126 _ _ hG
    have kG := kG.up monPlan s126
    obtain ⟨vO, hO, kO⟩ := x126.spot
    clear s126 n126
    refine ⟨.ref vp, rfl, vp, rfl, ⟨_, SqL.of hP⟩, for_list (K := K) (a := vp) (xs := vs) (fun i σ H' => ∃ z6 wq, σ = [some (.ref a), some (.int t), some (.ref vp), some (.int v), some (.int (v % t)), some (.ref L), z6, some (.int p.1), some (.int p.2), some (.ref p125), some (.int (v / 3 % ((vs.length : Nat) : Int))), some (.int (v / 7 % ((us.length : Nat) : Int))), some (.ref p108), some (.ref W), some (.ref wq), none, none, none, none, none] ∧ Same H126 H' ∧ LAt PairAt H' (.ref wq) (P0.take i).flatten) ⟨_, _, rfl, Same.refl _, _, _, rfl, hO, kO⟩ (fun i σ H' _ ⟨_, _, _, h, _⟩ => SqL.of (h _ _ hP)) ?_ ?_⟩
    · rintro i x σ H9 hx ⟨z6, wq, rfl, s9, hw⟩
      obtain ⟨srow, hsrow, hr⟩ := kP.at hx
      obtain ⟨qx, ux, rfl, hqx, kqx⟩ := hr.mono s9
      obtain ⟨vw, hvw, kvw⟩ := hw.spot
      have fl := flat_len (pl := P0.take i) (M := 24) (fun row hr => r0 row (List.mem_of_mem_take hr))
      rw [List.length_take] at fl
      have sl := r0 _ (List.mem_of_getElem? hsrow)
      refine ⟨.ref wq, rfl, .ref qx, rfl, wq, qx, vw, ux, rfl, rfl, hvw, hqx, cat_fits (by rw [kvw.len, kqx.len]; omega), fun pz nz => ?_⟩
      obtain ⟨s10, x10⟩ := new_cat monPair nz kvw kqx
      refine ⟨_, pz, rfl, s9.trans s10, ?_⟩
      rw [take_snoc hsrow, List.flatten_append, List.flatten_cons, List.flatten_nil, List.append_nil]
      exact x10
    rintro σ H9 ⟨z6, wq, rfl, s9, hw⟩
    rw [vl, List.take_length] at hw
    clear kO hO
    have s := s.trans s9
    have hP := s9 _ _ hP
    have kP := kP.up monRow s9
    have hR := s9 _ _ hR
    have kR := kR.up monPair s9
    have hS := s9 _ _ hS
    have kS := kS.up monPair s9
    have hG := s9 _ _ hG
    have kG := kG.up monPlan s9
    obtain ⟨vO, hO, kO⟩ := hw.spot
    clear s9 hw
    -- a round gone, twice, none, all in one
    refine ⟨.ref p125, rfl, .ref vp, rfl, .int (v / 3 % ((vs.length : Nat) : Int)), rfl, (v / 3 % ((vs.length : Nat) : Int)), rfl, vp, vs, rfl, SqL.of hP, fun p127 n127 => ?_⟩
    obtain ⟨s127, x127⟩ := new_to (i := (v / 3 % ((vs.length : Nat) : Int))) monRow n127 kP at0
    generalize upd H9 p127 (.lst (cutV vs none (some ((v / 3 % ((vs.length : Nat) : Int)))))) = H127 at s127 x127 ⊢
    have s := s.trans s127
    have hP := s127 _ _ hP
    have kP := kP.up monRow s127
    have hR := s127 _ _ hR
    have kR := kR.up monPair s127
    have hS := s127 _ _ hS
    have kS := kS.up monPair s127
    have hG := s127 _ _ hG
    have kG := kG.up monPlan s127
    have hO := s127 _ _ hO
    have kO := kO.up monPair s127
    obtain ⟨vA, hA, kA⟩ := x127.spot
    clear s127 n127
    refine ⟨.ref vp, rfl, .int (v / 3 % ((vs.length : Nat) : Int)), rfl, (v / 3 % ((vs.length : Nat) : Int)), 1, rfl, rfl, (v / 3 % ((vs.length : Nat) : Int)) + 1, rfl, vp, vs, rfl, SqL.of hP, fun p128 n128 => ?_⟩
    obtain ⟨s128, x128⟩ := new_from (i := (v / 3 % ((vs.length : Nat) : Int)) + 1) monRow n128 kP (by omega)
    generalize upd H127 p128 (.lst (cutV vs (some ((v / 3 % ((vs.length : Nat) : Int)) + 1)) none)) = H128 at s128 x128 ⊢
    have s := s.trans s128
    have hP := s128 _ _ hP
    have kP := kP.up monRow s128
    have hR := s128 _ _ hR
    have kR := kR.up monPair s128
    have hS := s128 _ _ hS
    have kS := kS.up monPair s128
    have hG := s128 _ _ hG
    have kG := kG.up monPlan s128
    have hO := s128 _ _ hO
    have kO := kO.up monPair s128
    have hA := s128 _ _ hA
    have kA := kA.up monRow s128
    obtain ⟨vB, hB, kB⟩ := x128.spot
    clear s128 n128
    refine ⟨p127, p128, vA, vB, rfl, rfl, hA, hB, cat_fits (by rw [kA.len, kB.len]; simp only [List.length_take, List.length_drop]; omega), fun p129 n129 => ?_⟩
    obtain ⟨s129, x129⟩ := new_cat monRow n129 kA kB
    generalize upd H128 p129 (.lst (vA ++ vB)) = H129 at s129 x129 ⊢
    have s := s.trans s129
    have hP := s129 _ _ hP
    have kP := kP.up monRow s129
    have hR := s129 _ _ hR
    have kR := kR.up monPair s129
    have hS := s129 _ _ hS
    have kS := kS.up monPair s129
    have hG := s129 _ _ hG
    have kG := kG.up monPlan s129
    have hO := s129 _ _ hO
    have kO := kO.up monPair s129
    have hA := s129 _ _ hA
    have kA := kA.up monRow s129
    have hB := s129 _ _ hB
    have kB := kB.up monRow s129
    obtain ⟨vI, hI, kI⟩ := x129.spot
    clear s129 n129
    clear kA hA
    clear kB hB
    refine ⟨.ref vp, rfl, .ref vp, rfl, .int (v / 3 % ((vs.length : Nat) : Int)), rfl, vp, vs, (v / 3 % ((vs.length : Nat) : Int)), .ref qr, rfl, rfl, SqL.of hP, iR, by show 1 ≤ sizeLine; decide, fun p130 n130 => ?_⟩
    obtain ⟨s130, x130⟩ := new_list monRow n130 (.cons ⟨_, _, rfl, hR, kR⟩ .nil)
    generalize upd H129 p130 (.lst [.ref qr]) = H130 at s130 x130 ⊢
    have s := s.trans s130
    have hP := s130 _ _ hP
    have kP := kP.up monRow s130
    have hR := s130 _ _ hR
    have kR := kR.up monPair s130
    have hS := s130 _ _ hS
    have kS := kS.up monPair s130
    have hG := s130 _ _ hG
    have kG := kG.up monPlan s130
    have hO := s130 _ _ hO
    have kO := kO.up monPair s130
    have hI := s130 _ _ hI
    have kI := kI.up monRow s130
    obtain ⟨vA, hA, kA⟩ := x130.spot
    clear s130 n130
    refine ⟨vp, p130, vs, vA, rfl, rfl, hP, hA, cat_fits (by rw [kP.len, kA.len]; show P0.length + 1 ≤ 5000; omega), fun p131 n131 => ?_⟩
    obtain ⟨s131, x131⟩ := new_cat monRow n131 kP kA
    generalize upd H130 p131 (.lst (vs ++ vA)) = H131 at s131 x131 ⊢
    have s := s.trans s131
    have hP := s131 _ _ hP
    have kP := kP.up monRow s131
    have hR := s131 _ _ hR
    have kR := kR.up monPair s131
    have hS := s131 _ _ hS
    have kS := kS.up monPair s131
    have hG := s131 _ _ hG
    have kG := kG.up monPlan s131
    have hO := s131 _ _ hO
    have kO := kO.up monPair s131
    have hI := s131 _ _ hI
    have kI := kI.up monRow s131
    have hA := s131 _ _ hA
    have kA := kA.up monRow s131
    obtain ⟨vJ, hJ, kJ⟩ := x131.spot
    clear s131 n131
    clear kA hA
    refine ⟨by show 0 ≤ sizeLine; decide, fun p132 n132 => ?_⟩
    obtain ⟨s132, x132⟩ := new_list monRow n132 (.nil)
    generalize upd H131 p132 (.lst []) = H132 at s132 x132 ⊢
    have s := s.trans s132
    have hP := s132 _ _ hP
    have kP := kP.up monRow s132
    have hR := s132 _ _ hR
    have kR := kR.up monPair s132
    have hS := s132 _ _ hS
    have kS := kS.up monPair s132
    have hG := s132 _ _ hG
    have kG := kG.up monPlan s132
    have hO := s132 _ _ hO
    have kO := kO.up monPair s132
    have hI := s132 _ _ hI
    have kI := kI.up monRow s132
    have hJ := s132 _ _ hJ
    have kJ := kJ.up monRow s132
    obtain ⟨vX, hX, kX⟩ := x132.spot
    clear s132 n132
    refine ⟨.ref wq, rfl, by show 1 ≤ sizeLine; decide, fun p133 n133 => ?_⟩
    obtain ⟨s133, x133⟩ := new_list monRow n133 (.cons ⟨_, _, rfl, hO, kO⟩ .nil)
    generalize upd H132 p133 (.lst [.ref wq]) = H133 at s133 x133 ⊢
    have s := s.trans s133
    have hP := s133 _ _ hP
    have kP := kP.up monRow s133
    have hR := s133 _ _ hR
    have kR := kR.up monPair s133
    have hS := s133 _ _ hS
    have kS := kS.up monPair s133
    have hG := s133 _ _ hG
    have kG := kG.up monPlan s133
    have hO := s133 _ _ hO
    have kO := kO.up monPair s133
    have hI := s133 _ _ hI
    have kI := kI.up monRow s133
    have hJ := s133 _ _ hJ
    have kJ := kJ.up monRow s133
    have hX := s133 _ _ hX
    have kX := kX.up monRow s133
    obtain ⟨vY, hY, kY⟩ := x133.spot
    clear s133 n133
    refine ⟨by show 4 ≤ sizeLine; decide, fun p134 n134 => ?_⟩
    obtain ⟨s134, x134⟩ := new_list monPlan n134 (.cons ⟨_, _, rfl, hI, kI⟩ (.cons ⟨_, _, rfl, hJ, kJ⟩ (.cons ⟨_, _, rfl, hX, kX⟩ (.cons ⟨_, _, rfl, hY, kY⟩ .nil))))
    generalize upd H133 p134 (.lst [.ref p129, .ref p131, .ref p132, .ref p133]) = H134 at s134 x134 ⊢
    have s := s.trans s134
    have hP := s134 _ _ hP
    have kP := kP.up monRow s134
    have hR := s134 _ _ hR
    have kR := kR.up monPair s134
    have hS := s134 _ _ hS
    have kS := kS.up monPair s134
    have hG := s134 _ _ hG
    have kG := kG.up monPlan s134
    have hO := s134 _ _ hO
    have kO := kO.up monPair s134
    have hI := s134 _ _ hI
    have kI := kI.up monRow s134
    have hJ := s134 _ _ hJ
    have kJ := kJ.up monRow s134
    have hX := s134 _ _ hX
    have kX := kX.up monRow s134
    have hY := s134 _ _ hY
    have kY := kY.up monRow s134
    obtain ⟨vA, hA, kA⟩ := x134.spot
    clear s134 n134
    clear kI hI
    clear kJ hJ
    clear kX hX
    clear kY hY
    refine ⟨p125, p134, vG, vA, rfl, rfl, hG, hA, cat_fits (by rw [kG.len, kA.len]; rw [w1]; show 10 + 4 ≤ 5000; decide), fun p135 n135 => ?_⟩
    obtain ⟨s135, x135⟩ := new_cat monPlan n135 kG kA
    generalize upd H134 p135 (.lst (vG ++ vA)) = H135 at s135 x135 ⊢
    have s := s.trans s135
    have hP := s135 _ _ hP
    have kP := kP.up monRow s135
    have hR := s135 _ _ hR
    have kR := kR.up monPair s135
    have hS := s135 _ _ hS
    have kS := kS.up monPair s135
    have hG := s135 _ _ hG
    have kG := kG.up monPlan s135
    have hO := s135 _ _ hO
    have kO := kO.up monPair s135
    have hA := s135 _ _ hA
    have kA := kA.up monPlan s135
    obtain ⟨vF, hF, kF⟩ := x135.spot
    clear s135 n135
    clear kG hG
    clear kA hA
    clear kO hO
    have fl := flat_len (pl := P0) (M := 24) r0
    have g3 : ∀ pl ∈ F1 ++ [P0.take (v / 3 % ((vs.length : Nat) : Int)).toNat ++ P0.drop ((v / 3 % ((vs.length : Nat) : Int)) + 1).toNat, P0 ++ [row], [], [P0.flatten]], Fit t pl := fun pl hm => by
      rcases List.mem_append.mp hm with h | h
      · exact g2 pl h
      · simp only [List.mem_cons, List.not_mem_nil, or_false] at h
        rcases h with rfl | rfl | rfl | rfl
        · have rows : ∀ r ∈ P0.take (v / 3 % ((vs.length : Nat) : Int)).toNat ++ P0.drop ((v / 3 % ((vs.length : Nat) : Int)) + 1).toNat, VRow t r ∧ r.length ≤ 24 := fun r hr => by
            rcases List.mem_append.mp hr with h | h
            · have := List.mem_of_mem_take h
              exact ⟨v0 _ this, r0 _ this⟩
            · have := List.mem_of_mem_drop h
              exact ⟨v0 _ this, r0 _ this⟩
          exact fit_of 23 24 (fun r hr => (rows r hr).1) (by simp only [List.length_append, List.length_take, List.length_drop]; omega) (fun r hr => (rows r hr).2) (by decide) (by decide) (by decide)
        · have rows : ∀ r ∈ P0 ++ [row], VRow t r ∧ r.length ≤ 24 := fun r hr => by
            rcases List.mem_append.mp hr with h | h
            · exact ⟨v0 _ h, r0 _ h⟩
            · rw [List.mem_singleton.mp h]
              exact ⟨rv, rl⟩
          exact fit_of 24 24 (fun r hr => (rows r hr).1) (by rw [List.length_append]; show P0.length + 1 ≤ 24; omega) (fun r hr => (rows r hr).2) (by decide) (by decide) (by decide)
        · exact fit_of 0 0 (fun r hr => absurd hr (by simp)) (by decide) (fun r hr => absurd hr (by simp)) (by decide) (by decide) (by decide)
        · refine fit_of 1 552 (fun r hr => ?_) (by show 1 ≤ 1; decide) (fun r hr => ?_) (by decide) (by decide) (by decide)
          · rw [List.mem_singleton.mp hr]
            intro z hz
            obtain ⟨r', hr', hz'⟩ := List.mem_flatten.mp hz
            exact v0 _ hr' z hz'
          · rw [List.mem_singleton.mp hr]
            omega
    have w2 : (F1 ++ [P0.take (v / 3 % ((vs.length : Nat) : Int)).toNat ++ P0.drop ((v / 3 % ((vs.length : Nat) : Int)) + 1).toNat, P0 ++ [row], [], [P0.flatten]]).length = 14 := by rw [List.length_append, w1]; rfl
    have w20 : (F1 ++ [P0.take (v / 3 % ((vs.length : Nat) : Int)).toNat ++ P0.drop ((v / 3 % ((vs.length : Nat) : Int)) + 1).toNat, P0 ++ [row], [], [P0.flatten]])[0]? = some P0 := by rw [List.getElem?_append_left (by omega)]; exact w10
    generalize F1 ++ [P0.take (v / 3 % ((vs.length : Nat) : Int)).toNat ++ P0.drop ((v / 3 % ((vs.length : Nat) : Int)) + 1).toNat, P0 ++ [row], [], [P0.flatten]] = F2 at kF g3 w2 w20
    clear g2 w1 w10
    -- drawn
    clear kR hR
    clear kS hS
    clear kP hP
    refine ⟨Nat.zero_le _, fun DR nDR => ?_⟩
    refine ⟨.int t, rfl, t, 1, rfl, rfl, t - 1, rfl, by omega, by omega, for_range (n := (t - 1).toNat) (fun i σ H' => ∃ z16 z17 z18 dr, σ = [some (.ref a), some (.int t), some (.ref vp), some (.int v), some (.int (v % t)), some (.ref L), z6, some (.int p.1), some (.int p.2), some (.ref p135), some (.int (v / 3 % ((vs.length : Nat) : Int))), some (.int (v / 7 % ((us.length : Nat) : Int))), some (.ref p108), some (.ref W), some (.ref wq), some (.ref DR), z16, z17, z18, none] ∧ Same H135 H' ∧ OAt RowAt H' DR dr ∧ dr.length = i ∧ ∀ r ∈ dr, VRow t r ∧ r.length ≤ 12) ⟨_, _, _, [], rfl, same_upd nDR, OAt.new RowAt, rfl, fun _ h => absurd h (by simp)⟩ ?_ ?_⟩
    · rintro k σ H9 hk ⟨z16, z17, z18, dr, rfl, s9, o9, dl, dv⟩
      rw [Int.zero_add]
      refine ⟨.int v, rfl, .int (k : Int), rfl, 31, (k : Int), rfl, rfl, .inl ⟨by decide, by decide⟩, v, 31 * (k : Int), rfl, rfl, .int (k : Int), rfl, .int t, rfl, _, (k : Int), t, rfl, by omega, fun f H10 f0 f1 s10 => ?_⟩
      refine ⟨.int f, rfl, .int f, rfl, f, 1, rfl, rfl, .int v, rfl, .int (k : Int), rfl, v, (k : Int), rfl, rfl, .int t, rfl, t, 1, rfl, rfl, _, 5, t - 1, rfl, by omega, fun z H11 z0 z1 s11 => ?_⟩
      refine ⟨f + 1, z, rfl, rfl, .int t, rfl, f + 1 + z, t, rfl, rfl, (by show (0 : Int) < t; omega), by show 2 ≤ sizeLine; decide, fun T nT => ?_⟩
      have tn := turn_ne t2 f0 f1 z0 z1
      have s12 := same_upd (o := .tup [.int f, .int ((f + 1 + z) % t)]) nT
      have hT : PairAt (upd H11 T (.tup [.int f, .int ((f + 1 + z) % t)])) (.ref T) (f, (f + 1 + z) % t) := ⟨T, rfl, upd_same⟩
      generalize upd H11 T (.tup [.int f, .int ((f + 1 + z) % t)]) = H12 at s12 hT ⊢
      have s1 := (s10.trans s11).trans s12
      have o12 := o9.keep monRow s1
      obtain ⟨acc5, e5⟩ := o12.at
      refine ⟨.ref DR, rfl, .inl ⟨rfl, _, SqL.of e5⟩, .int t, rfl, t, 2, rfl, rfl, ⟨by decide, by decide⟩, t / 2, rfl, by omega, by omega, fun D nD => lc_range (lo := 0) (n := (t / 2).toNat) (fun j H' => Same H12 H' ∧ OAt PairAt H' D (List.replicate j (f, (f + 1 + z) % t))) ⟨same_upd nD, OAt.new PairAt⟩ ?_ ?_⟩
      · rintro j H13 hj ⟨s13, o13⟩
        rw [Int.zero_add]
        obtain ⟨acc6, ea6, la6, o6⟩ := o13.push monPair (by rw [List.length_replicate]; omega) (monPair.up _ _ _ _ (same_apart nD s13) hT)
        refine ⟨rfl, .ref T, rfl, acc6, ea6, la6, same_push nD s13, ?_⟩
        rw [List.replicate_succ']
        exact o6
      · rintro H13 ⟨s13, o13⟩
        have nDD : D ≠ DR := (ne_of_none e5 nD).symm
        obtain ⟨acc6, ea6, la6, o6⟩ := (o12.keep monRow s13).push monRow (by omega) (row_apart (s13 _ _ e5) nDD (o13.close monPair))
        refine ⟨DR, acc6, .ref D, rfl, rfl, ea6, la6, _, _, _, _, rfl, same_push nDR ((s9.trans s1).trans s13), o6, by rw [List.length_append, dl]; rfl, fun r hr => ?_⟩
        rcases List.mem_append.mp hr with h | h
        · exact dv r h
        · rw [List.mem_singleton.mp h, List.length_replicate]
          refine ⟨fun x hx => ?_, by omega⟩
          rw [(List.mem_replicate.mp hx).2]
          exact ⟨f0, f1, tn.1, tn.2.1, tn.2.2⟩
    rintro σ H9 ⟨z16, z17, z18, dr, rfl, s9, o9, dl, dv⟩
    have s := s.trans s9
    have hF := s9 _ _ hF
    have kF := kF.up monPlan s9
    obtain ⟨vD, hD, kD⟩ := (o9.close monRow).spot
    clear s9 o9 nDR
    refine ⟨.ref p135, rfl, .ref DR, rfl, by show 1 ≤ sizeLine; decide, fun p136 n136 => ?_⟩
    obtain ⟨s136, x136⟩ := new_list monPlan n136 (.cons ⟨_, _, rfl, hD, kD⟩ .nil)
    generalize upd H9 p136 (.lst [.ref DR]) = H136 at s136 x136 ⊢
    have s := s.trans s136
    have hF := s136 _ _ hF
    have kF := kF.up monPlan s136
    have hD := s136 _ _ hD
    have kD := kD.up monRow s136
    obtain ⟨vA, hA, kA⟩ := x136.spot
    clear s136 n136
    refine ⟨p135, p136, vF, vA, rfl, rfl, hF, hA, cat_fits (by rw [kF.len, kA.len]; rw [w2]; show 14 + 1 ≤ 5000; decide), fun p137 n137 => ?_⟩
    obtain ⟨s137, x137⟩ := new_cat monPlan n137 kF kA
    generalize upd H136 p137 (.lst (vF ++ vA)) = H137 at s137 x137 ⊢
    have s := s.trans s137
    have hF := s137 _ _ hF
    have kF := kF.up monPlan s137
    have hD := s137 _ _ hD
    have kD := kD.up monRow s137
    have hA := s137 _ _ hA
    have kA := kA.up monPlan s137
    obtain ⟨vZ, hZ, kZ⟩ := x137.spot
    clear s137 n137
    refine q H137 p137 (F2 ++ [dr]) s ⟨_, _, rfl, hZ, kZ⟩ (by rw [List.length_append, w2]; rfl) (by rw [List.getElem?_append_left (by omega)]; exact w20) fun pl hm => ?_
    rcases List.mem_append.mp hm with h | h
    · exact g3 pl h
    · rw [List.mem_singleton.mp h]
      exact fit_of 23 12 (fun r hr => (dv r hr).1) (by omega) (fun r hr => (dv r hr).2) (by decide) (by decide) (by decide)
end
end EM
namespace EM
open PySem PySem.Spec PyProof.Rows L2
theorem scOften : FnScope ["_law_plan_here", "_law_one", "_law_other", "_law_pairs", "_law_pair"] ["_law_plan_here", "_law_one", "_law_other"] (defScope t__law_often) := ⟨rfl, rfl, rfl, by decide +kernel, rfl, by decide +kernel, by decide +kernel⟩
def oftenRow (a b : Int) (row : List (Int × Int)) : Nat := (row.filter (bothB a b)).length
theorem often_rows (pl : List (List (Int × Int))) (a b : Int) : (pl.map fun row => ((oftenRow a b row : Nat) : Int)).sum = ((oftenOf pl a b : Nat) : Int) := by
  unfold oftenOf
  induction pl with
  | nil => rfl
  | cons r pl ih =>
    rw [List.map_cons, List.map_cons, List.sum_cons, List.sum_cons, ih, Int.natCast_add]
    rfl
section
variable {P : Program} {w : World} {K : PySem.W.Frag} {mg : Str → Option Value} {base : Heap}
def spOften : Sp := fun vs H Q _ => ∃ (a : Addr) (pl : List (List (Int × Int))) (x y : Int), vs = [.ref a, .int x, .int y] ∧ PlanAt H a pl ∧ Sized pl ∧ ∀ H', Same H H' → Q (.int ((oftenOf pl x y : Nat) : Int)) H'
theorem fn_often (d : DefAt K mg "_law_often" t__law_often ["_law_plan_here", "_law_one", "_law_other"]) (N : Names mg) (ns : mg "sum" = none) : Fn P w K mg base "_law_often" ["_law_plan_here", "_law_one", "_law_other"] 1 spOften := by
  refine d.fn scOften (fun vs H Q E h => ?_) (fun f cdv A outer s H vs Q E hr h => ?_)
  · obtain ⟨a, pl, x, y, rfl, _⟩ := h
    rfl
  · obtain ⟨a, pl, x, y, rfl, hP, hs, q⟩ := h
    refine ⟨_, pss_one (ps_ret (pe_callB (cr_sum rfl) (by rfl) ns boot_sum (pa_cons
        (pe_lc (own := [("_law_pairs", 3)]) (g := gName 3) (tt := tYes) (te := tCB (fun xs H Q => ∃ p ys, xs = [.ref p] ∧ (SqL K H p ys ∨ SqT K H p ys) ∧ Q (.int ys.length) H) (tCons (tLc (iList K (tVar 3)) (gName 4) (tAnd (tTest (tOp (rIn K false) (tVar 1) (tVar 4))) (tTest (tOp (rIn K false) (tVar 2) (tVar 4)))) (tVar 4) [4]) tNil)) rfl scOften.nd (pi_list (pv 0))
          (blkOk_by (N := ["_law_plan_here", "_law_one", "_law_other", "_law_pairs", "_law_pair"]) (sc := defScope t__law_often) (by decide +kernel))
          (fun _ _ _ _ _ => pg_name (i := 3) scOften.nd rfl (Or.inl rfl)) (fun _ _ _ _ _ => pts_nil)
          (fun _ _ _ _ _ => pe_callB call_len_seq (by rfl) N.len PySem.boot_len (pa_cons
            (pe_lc (own := [("_law_pair", 4)]) (g := gName 4) rfl scOften.nd (pi_list (pv 3))
              (blkOk_by (N := ["_law_plan_here", "_law_one", "_law_other", "_law_pairs", "_law_pair"]) (by rfl))
              (fun _ _ _ _ _ => pg_name (i := 4) scOften.nd rfl (Or.inl rfl)) (fun _ _ _ _ _ => pts_one (PW.pt (pw_and (pt_cmpR op_in_seq (pv 1) (pv 4) (by rfl)) (pw_and1 (pt_cmpR op_in_seq (pv 2) (pv 4) (by rfl)))))) (fun _ _ _ _ _ => pv 4)) pa_nil))) pa_nil))), ?_⟩
    obtain ⟨vs, hv, av⟩ := hP
    refine ⟨.ref a, rfl, a, rfl, ⟨_, SqL.of hv⟩, fun D nD => lc_list (K := K) (a := a) (xs := vs)
      (fun i H' => Same H H' ∧ H' D = some (.lst (((pl.take i).map fun row => ((oftenRow x y row : Nat) : Int)).map V.int))) ⟨same_upd nD, upd_same⟩ (fun i H' _ h => h.1.seq (SqL.of hv)) ?_ ?_⟩
    · rintro i v H1 hx ⟨s1, e1⟩
      obtain ⟨row, hrow, q', us, rfl, hq, au⟩ := av.at hx
      have hq1 := s1 _ _ hq
      have il := (List.getElem?_eq_some_iff.mp hx).1
      have al := av.len
      have rl := hs.row row (List.mem_of_getElem? hrow)
      refine ⟨rfl, .ref q', rfl, q', rfl, ⟨_, SqL.of hq1⟩, fun D2 nD2 => lc_list (K := K) (a := q') (xs := us)
        (fun j H' => Same H1 H' ∧ ∃ out, H' D2 = some (.lst out) ∧ out.length = oftenRow x y (row.take j)) ⟨same_upd nD2, [], upd_same, rfl⟩ (fun j H' _ h => h.1.seq (SqL.of hq1)) ?_ ?_⟩
      · rintro j v2 H2 hj ⟨s2, out, e2, ol⟩
        obtain ⟨p, hp, qp, rfl, hqp⟩ := au.at hj
        have hq2 := s2 _ _ (s1 _ _ hqp)
        have jl := (List.getElem?_eq_some_iff.mp hj).1
        have ul := au.len
        have cs : oftenRow x y (row.take (j + 1)) = oftenRow x y (row.take j) + if bothB x y p = true then 1 else 0 := by
          unfold oftenRow
          rw [take_snoc hp, List.filter_append, List.length_append]
          cases hb : bothB x y p <;> simp [hb]
        refine ⟨rfl, .int x, rfl, .ref qp, rfl, qp, _, rfl, .inr (SqT.of hq2), rfl, rfl, hasB x p, rfl, ite2 (fun h1 => ?_) (fun h1 => ?_)⟩
        · refine ⟨.int y, rfl, .ref qp, rfl, qp, _, rfl, .inr (SqT.of hq2), rfl, rfl, hasB y p, rfl, ite2 (fun h2 => ?_) (fun h2 => ?_)⟩
          · have hb : bothB x y p = true := by unfold bothB; rw [h1, h2]; rfl
            rw [if_pos hb] at cs
            refine ⟨.ref qp, rfl, out, e2, ?_, same_push nD2 s2, _, upd_same, ?_⟩
            · have := List.length_filter_le (bothB x y) (row.take j)
              rw [List.length_take] at this
              have : oftenRow x y (row.take j) ≤ 900 := by unfold oftenRow; omega
              exact small1000 (by omega)
            · rw [List.length_append, ol, cs]
              rfl
          · have hb : ¬ bothB x y p = true := by unfold bothB; rw [h1]; simpa using h2
            rw [if_neg hb] at cs
            exact ⟨s2, out, e2, by rw [ol, cs]; rfl⟩
        · have hb : ¬ bothB x y p = true := by unfold bothB; simp [h1]
          rw [if_neg hb] at cs
          exact ⟨s2, out, e2, by rw [ol, cs]; rfl⟩
      · rintro H2 ⟨s2, out, e2, ol⟩
        rw [au.len, List.take_length] at ol
        refine ⟨D2, out, rfl, .inl (SqL.of e2), _, s2 _ _ e1, ?_, same_push nD (s1.trans s2), ?_⟩
        · rw [List.length_map, List.length_map, List.length_take]
          have := hs.few
          exact small1000 (by omega)
        · rw [upd_same, take_snoc hrow, List.map_append, List.map_append, ol]
          rfl
    · rintro H1 ⟨s1, e1⟩
      rw [av.len, List.take_length] at e1
      refine ⟨D, _, rfl, SqL.of e1, ?_⟩
      rw [often_rows]
      exact q H1 s1
end
end EM
namespace EM
open PySem PySem.Spec PyProof.Rows L2
/-! ### plans that are written in the law's own text -/
def GivesR {β : Type} (R : Hp → V → β → Prop) (te : TE) (σ : L2.St) (x : β) : Prop := ∀ (H : Hp) (Q : VK), (∀ G v, Same H G → R G v x → Q v G) → te σ H Q
def GivesRs {β : Type} (R : Hp → V → β → Prop) (ta : TA) (σ : L2.St) (xs : List β) : Prop := ∀ (H : Hp) (Q : List V → Hp → Prop), (∀ G vs, Same H G → All2 (R G) vs xs → Q vs G) → ta σ H Q
section
variable {β : Type} {R : Hp → V → β → Prop} {σ : L2.St} {te : TE} {ta : TA} {x : β} {xs : List β}
theorem gr_nil : GivesRs R tNil σ [] := fun H Q q => q H [] (Same.refl H) .nil
theorem gr_cons (hR : Mon R) (h : GivesR R te σ x) (k : GivesRs R ta σ xs) : GivesRs R (tCons te ta) σ (x :: xs) := fun H Q q => h H _ fun G v s r => k G _ fun G' vs s' a => q G' (v :: vs) (s.trans s') (.cons (hR.up _ _ _ _ s' r) a)
theorem gr_lst (hR : Mon R) (k : GivesRs R ta σ xs) (l : xs.length ≤ 900) : GivesR (LAt R) (tLst ta) σ xs := fun H Q q => k H _ fun G vs s a => ⟨by rw [a.len]; exact Nat.le_trans l (by decide), fun p np => by
  obtain ⟨s2, x2⟩ := new_list hR np a
  exact q _ _ (s.trans s2) x2⟩
theorem gr_pair {m n : Int} : GivesR PairAt (tTup (tCons (tC (.int m)) (tCons (tC (.int n)) tNil))) σ (m, n) := fun H Q q => ⟨by show 2 ≤ sizeLine; decide, fun p np => q _ _ (same_upd np) ⟨p, rfl, upd_same⟩⟩
end
theorem two_ways {vs : List V} {H : Hp} {Pv : Hp → L2.St → Hp → Prop} {B : Hp → V → L2.St → Hp → Prop} {N : L2.St → Hp → Prop} {X : Prop} (go : (∀ H1, Same H H1 → ∀ x ∈ vs, ∀ σ G, Pv H1 σ G → B H1 x σ G) → (∀ H1, Same H H1 → ∀ σ G, Pv H1 σ G → N σ G) → X)
    (hs : ∀ H1, Same H H1 → ∀ x ∈ vs, ∀ σ G, Pv H1 σ G → B H1 x σ G) (hd : ∀ H1, Same H H1 → ∀ σ G, Pv H1 σ G → N σ G) : X := go hs hd
theorem cut_mem {xs : List V} {i : Int} {x : V} (h : 0 ≤ i) (hx : x ∈ cutV xs none (some i)) : x ∈ xs := by
  rw [cut_to h] at hx
  exact List.mem_of_mem_take hx
theorem atI_last {xs : List V} {n : Nat} {v : V} (h : xs.length = n + 1) (e : xs[n]? = some v) : atI xs (-1) = some v := by
  unfold atI ixN
  rw [h, if_neg (by decide), if_pos (by omega)]
  show xs[(-1 + ((n + 1 : Nat) : Int)).toNat]? = some v
  rw [show (-1 + ((n + 1 : Nat) : Int)).toNat = n by omega]
  exact e
/-! what is told of small plans -/
theorem small_fit {t : Int} {pl : List (List (Int × Int))} (h : (pl.all fun row => row.all fun p => decide (0 ≤ p.1) && decide (p.1 < t) && (decide (0 ≤ p.2) && decide (p.2 < t)) && decide (p.1 ≠ p.2)) = true) (k : (decide (pl.length ≤ 20) && pl.all fun row => decide (row.length ≤ 20)) = true) : Fit t pl := by
  rw [Bool.and_eq_true, decide_eq_true_eq, List.all_eq_true] at k
  refine fit_of 20 20 (fun row hr p hp => ?_) k.1 (fun row hr => of_decide_eq_true (k.2 row hr)) (by decide) (by decide) (by decide)
  have h1 := List.all_eq_true.mp (List.all_eq_true.mp h row hr) p hp
  simp only [Bool.and_eq_true, decide_eq_true_eq] at h1
  exact ⟨h1.1.1.1, h1.1.1.2, h1.1.2.1, h1.1.2.2, h1.2⟩
theorem never_told {A : Ans} (h : showsB 2 [] A = true) : ∃ a b, A = .never a b := by
  cases A with
  | good => exact absurd h (by decide)
  | lone n c =>
    simp only [showsB, Bool.and_eq_true, decide_eq_true_eq, List.length_nil] at h
    omega
  | twice a b =>
    simp only [showsB, Bool.and_eq_true, decide_eq_true_eq] at h
    have : oftenOf [] a b = 0 := rfl
    omega
  | never a b => exact ⟨a, b, rfl⟩
theorem twice_told {A : Ans} (h : showsB 2 [[(0, 1)], [(1, 0)]] A = true) : ∃ a b, A = .twice a b := by
  cases A with
  | good => exact absurd h (by decide +kernel)
  | lone n c =>
    have h' := h
    simp only [showsB, Bool.and_eq_true, decide_eq_true_eq, List.length_cons, List.length_nil] at h'
    have hn : n = 0 ∨ n = 1 := by omega
    have hc : c = 0 ∨ c = 1 := by omega
    rcases hn with rfl | rfl <;> rcases hc with rfl | rfl <;> exact absurd h (by decide)
  | twice a b => exact ⟨a, b, rfl⟩
  | never a b =>
    have h' := h
    simp only [showsB, twoB, Bool.and_eq_true, decide_eq_true_eq] at h'
    have ha : a = 0 := by omega
    have hb : b = 1 := by omega
    subst ha hb
    exact absurd h (by decide)
end EM
namespace EM
open PySem PySem.Spec PyProof.Rows L2
theorem scLoneRight : FnScope ["_law_teams", "_law_plan_here", "_law_number", "_law_team", "_law_answer", "_law_due"] ["_law_teams", "_law_plan_here", "_law_number", "_law_team"] (defScope t__law_lone_right) := ⟨rfl, rfl, rfl, by decide +kernel, rfl, by decide +kernel, by decide +kernel⟩
theorem scTwoRight : FnScope ["_law_teams", "_law_plan_here", "_law_one", "_law_other", "_law_answers", "_law_many", "_law_answer"] ["_law_teams", "_law_plan_here", "_law_one", "_law_other"] (defScope t__law_two_right) := ⟨rfl, rfl, rfl, by decide +kernel, rfl, by decide +kernel, by decide +kernel⟩
theorem dp_pair {K : PySem.W.Frag} {H : Hp} {b : Addr} {m n : Int} (e : H b = some (.tup [.int m, .int n])) : Dp K H (.ref b) (pairD (m, n)) := PairAt.dp ⟨b, rfl, e⟩
/-- nothing, then the rest -/
theorem goes_on {D : Ends} {σ : L2.St} {H : Hp} (h : D.nx σ H) : tNext D σ H := h
/-- an assignment, then the rest -/
theorem seq_set {te : TE} {i : Nat} {rest : TS} {D : Ends} {σ : L2.St} {H : Hp} (h : te σ H fun x G => rest D (σ.set i (some x)) G) : tSeq (tAsg te (gName i)) rest D σ H := h
/-- C(e1, e2) where neither leaves anything -/
theorem read_mk2 {C : Addr} {f1 f2 : Str} {te1 te2 : TE} {σ : L2.St} {H : Hp} {y1 y2 : V} (p1 : ∀ Q : VK, Q y1 H → te1 σ H Q) (p2 : ∀ Q : VK, Q y2 H → te2 σ H Q) (Q : VK) (q : ∀ x dx G, H x = none → Same H G → G x = some (.ins C dx (putF f2 y2 (putF f1 y1 []))) → Q (.ref x) G) :
    tMake C (spInit2 C f1 f2) [] E0 (tCons te1 (tCons te2 tNil)) σ H Q := by
  refine p1 _ (p2 _ ?_)
  exact made2 (y1 := y1) (y2 := y2) q
/-- a list of two that are made one after the other -/
theorem read_lst2 {te1 te2 : TE} {σ : L2.St} {H : Hp} {Q : VK} (h : te1 σ H fun v1 G => te2 σ G fun v2 G2 => 2 ≤ sizeLine ∧ ∀ p, G2 p = none → Q (.ref p) (upd G2 p (.lst [v1, v2]))) : tLst (tCons te1 (tCons te2 tNil)) σ H Q := h
theorem pair_eqv (p : Int × Int) : PyData.eqv (pairD p) (pairD p) = true := SeqAt.eqv_refl _ rfl
theorem rowN_at {pl : List (List (Int × Int))} {m : Nat} (h : m < pl.length) : pl[m]? = some (rowN pl m) := by
  unfold rowN
  rw [List.getElem?_eq_getElem h]
  rfl
section
variable {P : Program} {w : World} {K : PySem.W.Frag} {mg : Str → Option Value} {base : Heap}
def spHandRight : Sp := fun vs H Q _ => ∃ (t : Int) (a : Addr) (pl : List (List (Int × Int))) (m n : Int), vs = [.int t, .ref a, .int m, .int n] ∧ TOk t ∧ t ≤ 20 ∧ PlanAt H a pl ∧ Fit t pl ∧ ∀ G, Same H G → Q (.bl true) G
theorem fn_loneRight {c : Cs} {kS : Nat} (d : DefAt K mg "_law_lone_right" t__law_lone_right ["_law_teams", "_law_plan_here", "_law_number", "_law_team"]) (N : Names mg) (Z : AnsC K mg c) (M : MkAns P w K mg base c) (hkS : kS ≤ 20) (hS : ∀ C sp, Shown c C sp → Serves P w K mg base kS C "shows" sp)
    (Fl : Fn P w K mg base "_law_lone" ["_law_plan_here", "_law_number", "_law_team"] 1 spLone) (Fs : Fn P w K mg base "_law_says" ["_law_said", "_law_due"] 1 spSays) : Fn P w K mg base "_law_lone_right" ["_law_teams", "_law_plan_here", "_law_number", "_law_team"] 21 spHandRight := by
  refine d.fn scLoneRight (fun vs H Q E h => ?_) (fun f cdv A0 outer s H vs Q E hr h => ?_)
  · obtain ⟨t, a, pl, m, n, rfl, _⟩ := h
    rfl
  · obtain ⟨t, a, pl, m, n, rfl, T, t20, hP, F, q⟩ := h
    refine ⟨_, pss_cons (ps_set (i := 4) scLoneRight.nd rfl (.inl rfl) (pe_mk M.l hr (by decide) (by rfl) Z.mL (pa_cons (pv 2) (pa_cons (pv 3) pa_nil))))
      (pss_cons (ps_set (i := 5) scLoneRight.nd rfl (.inl rfl) (pe_and (pe_chain op_le op_lt pe_int (pv 2) (pe_callB call_len_seq (by rfl) N.len PySem.boot_len (pa_cons (pv 1) pa_nil))) (pe_and (pe_chain op_le op_lt pe_int (pv 3) (pv 0))
          (pe_one (pe_f Fl hr (by decide) (by rfl) (pa_cons (pv 1) (pa_cons (pv 2) (pa_cons (pv 3) pa_nil))))))))
      (pss_one (ps_ret (pe_and (pe_cmpR (op_eqD hr.units) (pe_tup (pa_cons (pe_fld (pv 4) rfl) (pa_cons (pe_fld (pv 4) rfl) pa_nil))) (pe_tup (pa_cons (pv 2) (pa_cons (pv 3) pa_nil))) (nomark _))
        (pe_one (pe_f Fs hr (by decide) (by rfl) (pa_cons (pe_methD (pv 4) hS hr hkS (pa_cons (pv 0) (pa_cons (pv 1) pa_nil))) (pa_cons (pv 5) pa_nil)))))))), ?_⟩
    have t2 := T.two
    obtain ⟨us, ea, au⟩ := id hP
    have ul := au.len
    refine seq_set ?_
    refine read_mk2 (y1 := .int m) (y2 := .int n) (fun Q q => ⟨.int m, rfl, q⟩) (fun Q q => ⟨.int n, rfl, q⟩) _ fun x dx G nx s1 ex => ?_
    have ax : AnsAt c G x (.lone m n) := ⟨dx, _, ex, flds_lone⟩
    have fin : ∀ (b : Bool) (G2 : Hp) (τ : L2.St), Same G G2 → b = showsB t pl (.lone m n) → τ = [some (.int t), some (.ref a), some (.int m), some (.int n), some (.ref x), some (.bl b)] → tRet (tAndV (tOp (rEqD K) (tTup (tCons (tFld K (tVar 4) "number") (tCons (tFld K (tVar 4) "team") tNil))) (tTup (tCons (tVar 2) (tCons (tVar 3) tNil))))
        (tCall spSays [] E0 (tCons (tMethD (Shown c) "shows" (tVar 4) (tCons (tVar 0) (tCons (tVar 1) tNil))) (tCons (tVar 5) tNil)))) { nx := fun _ H' => Q .non H', rt := Q } τ G2 := fun b G2 τ s2 eb eτ => by
      subst eτ
      have cl := (Z.ins (.lone m n)).cls
      have ex2 := s2 _ _ ex
      have fk := flds_lone (n := m) (k := n)
      refine ⟨.ref x, rfl, x, c.l, dx, _, _, rfl, ex2, cl, Z.nN, fk.1, .ref x, rfl, x, c.l, dx, _, _, rfl, ex2, cl, Z.nT, fk.2.1, by show 2 ≤ sizeLine; decide, fun b1 n1 => ?_⟩
      have s3 := same_upd (o := .tup [.int m, .int n]) n1
      refine ⟨.int m, rfl, .int n, rfl, by show 2 ≤ sizeLine; decide, fun b2 n2 => ?_⟩
      have s4 := same_upd (o := .tup [.int m, .int n]) n2
      refine ⟨pairD (m, n), pairD (m, n), dp_pair (s4 _ _ upd_same), dp_pair upd_same, rfl, rfl, true, by rw [pair_eqv], iteT ?_⟩
      have s5 := (s2.trans s3).trans s4
      refine ⟨.ref x, rfl, x, dx, _, c.l, _, rfl, s5 _ _ ex, fk.2.2, ⟨⟨.lone m n, rfl⟩, rfl⟩, .int t, rfl, .ref a, rfl, x, t, .ref a, pl, .lone m n, rfl, ax.mono s5, rfl, T, t20, plan_lat.mp (hP.mono (s1.trans s5)), F.valid, F.sized, fun G3 s6 => ⟨.bl b, rfl, showsB t pl (.lone m n), by rw [eb]; rfl, q G3 ((s1.trans s5).trans s6)⟩⟩
    have no : (¬ (0 ≤ m ∧ m < ((pl.length : Nat) : Int)) ∨ ¬ (0 ≤ n ∧ n < t)) → showsB t pl (.lone m n) = false := fun z => by
      show (decide (0 ≤ m ∧ m < ((pl.length : Nat) : Int)) && (decide (0 ≤ n ∧ n < t) && _)) = false
      rcases z with z | z
      · rw [decide_eq_false z, Bool.false_and]
      · rw [decide_eq_false z, Bool.false_and, Bool.and_false]
    refine ⟨.int m, rfl, 0, m, rfl, rfl, _, rfl, ite2 (fun h1 => ?_) (fun h1 => ?_)⟩
    · have h1 : 0 ≤ m := of_decide_eq_true h1
      refine ⟨.ref a, rfl, a, us, rfl, .inl (SqL.of (s1 _ _ ea)), m, _, rfl, rfl, _, rfl, ite2 (fun h2 => ?_) (fun h2 => ?_)⟩
      · have h2 := of_decide_eq_true h2
        rw [ul] at h2
        refine ⟨.int n, rfl, 0, n, rfl, rfl, _, rfl, ite2 (fun h3 => ?_) (fun h3 => ?_)⟩
        · have h3 : 0 ≤ n := of_decide_eq_true h3
          refine ⟨.int t, rfl, n, t, rfl, rfl, _, rfl, ite2 (fun h4 => ?_) (fun h4 => ?_)⟩
          · have h4 := of_decide_eq_true h4
            obtain ⟨i, rfl⟩ : ∃ i : Nat, m = (i : Int) := ⟨m.toNat, by omega⟩
            have hi : i < pl.length := by omega
            refine ⟨.ref a, rfl, .int (i : Int), rfl, .int n, rfl, a, pl, i, n, rowN pl i, rfl, hP.mono s1, rowN_at hi, F.sized.row _ (List.mem_of_getElem? (rowN_at hi)), fun G2 s2 => fin _ G2 _ s2 ?_ rfl⟩
            show _ = (decide (0 ≤ (i : Int) ∧ (i : Int) < ((pl.length : Nat) : Int)) && (decide (0 ≤ n ∧ n < t) && !decide (V.int ((cntOf (rowN pl ((i : Int)).toNat) n : Nat) : Int) = V.int 1)))
            rw [Int.toNat_natCast, decide_eq_true (⟨h1, h2⟩ : 0 ≤ (i : Int) ∧ (i : Int) < ((pl.length : Nat) : Int)), decide_eq_true (⟨h3, h4⟩ : 0 ≤ n ∧ n < t)]
            rfl
          · have h4 : ¬ n < t := fun z => h4 (decide_eq_true z)
            exact fin false G _ (Same.refl G) (no (.inr fun z => h4 z.2)).symm rfl
        · have h3 : ¬ 0 ≤ n := fun z => h3 (decide_eq_true z)
          exact ⟨false, rfl, fin false G _ (Same.refl G) (no (.inr fun z => h3 z.1)).symm rfl⟩
      · have h2 : ¬ m < ((us.length : Nat) : Int) := fun z => h2 (decide_eq_true z)
        exact fin false G _ (Same.refl G) (no (.inl fun z => h2 (by rw [ul]; exact z.2))).symm rfl
    · have h1 : ¬ 0 ≤ m := fun z => h1 (decide_eq_true z)
      exact ⟨false, rfl, fin false G _ (Same.refl G) (no (.inl fun z => h1 z.1)).symm rfl⟩
/-- how often two meet, -1 for what are no two -/
theorem many4 {σ : L2.St} {H : Hp} {t m n : Int} {a : Addr} {pl : List (List (Int × Int))} (h0 : σ[0]? = some (some (.int t))) (h1 : σ[1]? = some (some (.ref a))) (h2 : σ[2]? = some (some (.int m))) (h3 : σ[3]? = some (some (.int n))) (hP : PlanAt H a pl) (hs : Sized pl) (Q : VK)
    (q : ∀ (z : Int) G, Same H G → decide (1 < z) = showsB t pl (.twice m n) → decide (V.int z = V.int 0) = showsB t pl (.never m n) → Q (.int z) G) :
    tIf (tCh3 (rI0 fun i j => .bl (decide (i ≤ j))) (rI0 fun i j => .bl (decide (i < j))) (rI0 fun i j => .bl (decide (i < j))) (tC (.int 0)) (tVar 2) (tVar 3) (tVar 0)) (tCall spOften [] E0 (tCons (tVar 1) (tCons (tVar 2) (tCons (tVar 3) tNil)))) (tUn (rU fun i => .int (-i)) (tC (.int 1))) σ H Q := by
  have no : ¬ (0 ≤ m ∧ m < n ∧ n < t) → Q (.int (-1)) H := fun z => by
    refine q (-1) H (Same.refl H) ?_ ?_
    · show _ = (decide (0 ≤ m ∧ m < n ∧ n < t) && _)
      rw [decide_eq_false z]
      rfl
    · show _ = (decide (0 ≤ m ∧ m < n ∧ n < t) && _)
      rw [decide_eq_false z, dec_int]
      rfl
  refine ⟨.int m, h2, 0, m, rfl, rfl, _, rfl, ite2 (fun e0 => ?_) (fun e0 => ⟨1, rfl, no fun z => e0 (decide_eq_true z.1)⟩)⟩
  have e0 : 0 ≤ m := of_decide_eq_true e0
  refine ⟨.int n, h3, m, n, rfl, rfl, _, rfl, ite2 (fun e1 => ?_) (fun e1 => ⟨1, rfl, no fun z => e1 (decide_eq_true z.2.1)⟩)⟩
  have e1 : m < n := of_decide_eq_true e1
  refine ⟨.int t, h0, n, t, rfl, rfl, _, rfl, ?_⟩
  by_cases e2 : n < t
  · rw [decide_eq_true e2]
    have b3 : 0 ≤ m ∧ m < n ∧ n < t := ⟨e0, e1, e2⟩
    refine iteT ⟨.ref a, h1, .int m, h2, .int n, h3, a, pl, m, n, rfl, hP, hs, fun G sG => q _ G sG ?_ ?_⟩
    · show _ = (decide (0 ≤ m ∧ m < n ∧ n < t) && decide (1 < oftenOf pl m n))
      rw [decide_eq_true b3, Bool.true_and]
      exact decide_eq_decide.mpr (by omega)
    · show _ = (decide (0 ≤ m ∧ m < n ∧ n < t) && decide (oftenOf pl m n = 0))
      rw [decide_eq_true b3, Bool.true_and, dec_int]
      exact decide_eq_decide.mpr (by omega)
  · rw [decide_eq_false e2]
    exact iteF ⟨1, rfl, no fun z => e2 z.2.2⟩
theorem fn_twoRight {c : Cs} {kS : Nat} (d : DefAt K mg "_law_two_right" t__law_two_right ["_law_teams", "_law_plan_here", "_law_one", "_law_other"]) (N : Names mg) (Z : AnsC K mg c) (M : MkAns P w K mg base c) (hkS : kS ≤ 20) (hS : ∀ C sp, Shown c C sp → Serves P w K mg base kS C "shows" sp)
    (Fo : Fn P w K mg base "_law_often" ["_law_plan_here", "_law_one", "_law_other"] 1 spOften) (Fs : Fn P w K mg base "_law_says" ["_law_said", "_law_due"] 1 spSays) : Fn P w K mg base "_law_two_right" ["_law_teams", "_law_plan_here", "_law_one", "_law_other"] 21 spHandRight := by
  refine d.fn scTwoRight (fun vs H Q E h => ?_) (fun f cdv A0 outer s H vs Q E hr h => ?_)
  · obtain ⟨t, a, pl, m, n, rfl, _⟩ := h
    rfl
  · obtain ⟨t, a, pl, m, n, rfl, T, t20, hP, F, q⟩ := h
    refine ⟨_, pss_cons (ps_set (i := 4) scTwoRight.nd rfl (.inl rfl) (pe_lst (pa_cons (pe_mk M.t hr (by decide) (by rfl) Z.mT (pa_cons (pv 2) (pa_cons (pv 3) pa_nil))) (pa_cons (pe_mk M.n hr (by decide) (by rfl) Z.mN (pa_cons (pv 2) (pa_cons (pv 3) pa_nil))) pa_nil))))
      (pss_cons (ps_if (pt_cmpR (op_neD hr.units)
          (pe_lc (own := [("_law_answer", 6)]) (g := gName 6) (tt := tYes) (te := tTup (tCons (tFld K (tVar 6) "one") (tCons (tFld K (tVar 6) "other") tNil))) rfl scTwoRight.nd (pi_list (pv 4)) (blkOk_by (N := ["_law_teams", "_law_plan_here", "_law_one", "_law_other", "_law_answers", "_law_many", "_law_answer"]) (sc := defScope t__law_two_right) (by decide +kernel))
            (fun _ _ _ _ _ => pg_name (i := 6) scTwoRight.nd rfl (Or.inl rfl)) (fun _ _ _ _ _ => pts_nil) (fun _ _ _ _ _ => pe_tup (pa_cons (pe_fld (pv 6) rfl) (pa_cons (pe_fld (pv 6) rfl) pa_nil))))
          (pe_lst (pa_cons (pe_tup (pa_cons (pv 2) (pa_cons (pv 3) pa_nil))) (pa_cons (pe_tup (pa_cons (pv 2) (pa_cons (pv 3) pa_nil))) pa_nil))) (nomark _)) (pss_one ps_never) pss_nil)
      (pss_cons (ps_set (i := 5) scTwoRight.nd rfl (.inl rfl) (pe_ifExp (pt_chain3 op_le op_lt op_lt pe_int (pv 2) (pv 3) (pv 0)) (pe_f Fo hr (by decide) (by rfl) (pa_cons (pv 1) (pa_cons (pv 2) (pa_cons (pv 3) pa_nil)))) (pe_un un_neg pe_int)))
      (pss_cons (ps_if (pt_not (pt_val (pe_f Fs hr (by decide) (by rfl) (pa_cons (pe_methD (pe_ix ix_list (pv 4) pe_int (fun _ _ => rfl)) hS hr hkS (pa_cons (pv 0) (pa_cons (pv 1) pa_nil))) (pa_cons (pe_cmpR op_gt (pv 5) pe_int (nomark _)) pa_nil))))) (pss_one ps_never) pss_nil)
      (pss_one (ps_ret (pe_f Fs hr (by decide) (by rfl) (pa_cons (pe_methD (pe_ix ix_list (pv 4) pe_int (fun _ _ => rfl)) hS hr hkS (pa_cons (pv 0) (pa_cons (pv 1) pa_nil))) (pa_cons (pe_cmpR op_eq (pv 5) pe_int (nomark _)) pa_nil)))))))), ?_⟩
    have t2 := T.two
    refine seq_set ?_
    refine read_lst2 ?_
    refine read_mk2 (y1 := .int m) (y2 := .int n) (fun Q q => ⟨.int m, rfl, q⟩) (fun Q q => ⟨.int n, rfl, q⟩) _ fun x dx G nx s1 ex => ?_
    refine read_mk2 (y1 := .int m) (y2 := .int n) (fun Q q => ⟨.int m, rfl, q⟩) (fun Q q => ⟨.int n, rfl, q⟩) _ fun y dy G2 ny s2 ey => ⟨by show 2 ≤ sizeLine; decide, fun L nL => ?_⟩
    have sL := same_upd (o := .lst [.ref x, .ref y]) nL
    have eL : upd G2 L (.lst [.ref x, .ref y]) L = some (.lst [.ref x, .ref y]) := upd_same
    have s3 := (s1.trans s2).trans sL
    have ex3 := sL _ _ (s2 _ _ ex)
    have ey3 := sL _ _ ey
    generalize upd G2 L (.lst [.ref x, .ref y]) = G3 at *
    have clt := (Z.ins (.twice m n)).cls
    have cln := (Z.ins (.never m n)).cls
    have ft := flds_two (a := m) (b := n)
    have fk := flds_never (a := m) (b := n)
    refine ⟨.ref L, rfl, L, rfl, ⟨_, SqL.of eL⟩, fun D nD => lc_list (K := K) (a := L) (xs := [.ref x, .ref y]) (fun i G' => Same G3 G' ∧ OAt PairAt G' D (List.replicate i (m, n))) ⟨same_upd nD, OAt.new _⟩ (fun i G' _ h => SqL.of (h.1 _ _ eL)) ?_ ?_⟩
    · rintro i u G4 hu ⟨s4, o4⟩
      have il : i < 2 := (List.getElem?_eq_some_iff.mp hu).1
      have two : ∃ (C : Addr) (du : Addr) (fs : List (Str × V)) (p : Addr), u = .ref p ∧ G4 p = some (.ins C du fs) ∧ Cls K C ∧ NoAttr K C "one" ∧ NoAttr K C "other" ∧ fs.lookup ("one" : Str) = some (.int m) ∧ fs.lookup ("other" : Str) = some (.int n) := by
        rcases i with _ | _ | i
        · cases hu
          exact ⟨c.t, dx, _, x, rfl, s4 _ _ ex3, clt, Z.nO, Z.nP, ft.1, ft.2.1⟩
        · cases hu
          exact ⟨c.n, dy, _, y, rfl, s4 _ _ ey3, cln, Z.nQ, Z.nR, fk.1, fk.2.1⟩
        · omega
      obtain ⟨C, du, fs, p, rfl, ep, cl, n1, n2, f1, f2⟩ := two
      refine ⟨rfl, .ref p, rfl, p, C, du, fs, _, rfl, ep, cl, n1, f1, .ref p, rfl, p, C, du, fs, _, rfl, ep, cl, n2, f2, by show 2 ≤ sizeLine; decide, fun b nb => ?_⟩
      have s5 := same_upd (o := .tup [.int m, .int n]) nb
      obtain ⟨acc0, eD⟩ := o4.at
      have nbD : b ≠ D := (ne_of_none eD nb).symm
      obtain ⟨acc, ea, la, o5⟩ := (o4.keep monPair s5).push monPair (x := (m, n)) (v := .ref b) (by rw [List.length_replicate]; omega) ⟨b, rfl, by rw [del_ne nbD]; exact upd_same⟩
      refine ⟨acc, ea, la, same_push nD (s4.trans s5), ?_⟩
      rw [List.replicate_succ']
      exact o5
    · rintro G4 ⟨s4, o4⟩
      have hR : RowAt G4 (.ref D) [(m, n), (m, n)] := o4.close monPair
      refine ⟨.int m, rfl, .int n, rfl, by show 2 ≤ sizeLine; decide, fun b1 n1 => ⟨.int m, rfl, .int n, rfl, by show 2 ≤ sizeLine; decide, fun b2 n2 => ⟨by show 2 ≤ sizeLine; decide, fun b3 n3 => ?_⟩⟩⟩
      have t1 := same_upd (o := .tup [.int m, .int n]) n1
      have t2' := same_upd (o := .tup [.int m, .int n]) n2
      have t3 := same_upd (o := .lst [.ref b1, .ref b2]) n3
      have hR2 : RowAt (upd (upd (upd G4 b1 (.tup [.int m, .int n])) b2 (.tup [.int m, .int n])) b3 (.lst [.ref b1, .ref b2])) (.ref b3) [(m, n), (m, n)] := ⟨b3, _, rfl, upd_same, .cons ⟨b1, rfl, t3 _ _ (t2' _ _ upd_same)⟩ (.cons ⟨b2, rfl, t3 _ _ upd_same⟩ .nil)⟩
      have s5 := s4.trans ((t1.trans t2').trans t3)
      have hR1 := hR.mono ((t1.trans t2').trans t3)
      generalize upd (upd (upd G4 b1 (.tup [.int m, .int n])) b2 (.tup [.int m, .int n])) b3 (.lst [.ref b1, .ref b2]) = G5 at *
      refine ⟨rowD [(m, n), (m, n)], rowD [(m, n), (m, n)], hR1.dp, hR2.dp, shaped_row _, shaped_row _, _, rfl, ?_⟩
      rw [SeqAt.eqv_refl _ (lay_row _)]
      refine iteF ?_
      have s6 := s3.trans s5
      refine goes_on ?_
      dsimp only
      refine seq_set ?_
      refine many4 (t := t) (m := m) (n := n) (a := a) (pl := pl) rfl rfl rfl rfl (hP.mono s6) F.sized _ fun z G6 s7 e1 e2 => ?_
      have s8 := s5.trans s7
      refine ⟨.ref L, rfl, L, _, 0, .ref x, rfl, rfl, SqL.of (s8 _ _ eL), rfl, x, dx, _, c.t, _, rfl, s8 _ _ ex3, ft.2.2, ⟨⟨.twice m n, rfl⟩, rfl⟩, .int t, rfl, .ref a, rfl, x, t, .ref a, pl, .twice m n, rfl, ⟨dx, _, s8 _ _ ex3, ft⟩, rfl, T, t20, plan_lat.mp (hP.mono (s6.trans s7)), F.valid, F.sized, fun G7 s9 => ?_⟩
      refine ⟨.int z, rfl, z, 1, rfl, rfl, showsB t pl (.twice m n), congrArg (fun b => [V.bl (showsB t pl (.twice m n)), V.bl b]) e1, true, rfl, iteF ?_⟩
      have s10 := s8.trans s9
      refine ⟨.ref L, rfl, L, _, 1, .ref y, rfl, rfl, SqL.of (s10 _ _ eL), rfl, y, dy, _, c.n, _, rfl, s10 _ _ ey3, fk.2.2, ⟨⟨.never m n, rfl⟩, rfl⟩, .int t, rfl, .ref a, rfl, y, t, .ref a, pl, .never m n, rfl, ⟨dy, _, s10 _ _ ey3, fk⟩, rfl, T, t20, plan_lat.mp (hP.mono ((s6.trans s7).trans s9)), F.valid, F.sized, fun G8 s11 => ?_⟩
      exact ⟨.int z, rfl, rfl, showsB t pl (.never m n), congrArg (fun b => [V.bl (showsB t pl (.never m n)), V.bl b]) e2, q G8 (((s6.trans s7).trans s9).trans s11)⟩
end
end EM
namespace EM
open PySem PySem.Spec PyProof.Rows L2
theorem scLaw4 : FnScope ["_law_script", "_law_cell", "_law_teams", "_law_plan_here", "_law_size", "_law_number", "_law_team", "_law_one", "_law_other", "_law_good_here", "_law_bad", "_law_said"] ["_law_script"] (defScope t_law) := ⟨rfl, rfl, rfl, by decide +kernel, rfl, by decide +kernel, by decide +kernel⟩
def spLaw4 (K : PySem.W.Frag) : Sp := fun vs H Q _ => ∃ (a : Addr) (ns : List Int), vs = [.ref a] ∧ SqL K H a (ns.map V.int) ∧ ns.length ≤ 63 ∧ (∀ n ∈ ns, bits20 n) ∧ ∀ H', Q (.bl true) H'
theorem gr_row {σ : L2.St} {ta : TA} {xs : List (Int × Int)} (k : GivesRs PairAt ta σ xs) (l : xs.length ≤ 900) : GivesR RowAt (tLst ta) σ xs := gr_lst monPair k l
/-- an expression that makes an answer -/
def Hands (c : Cs) (te : TE) (σ : L2.St) (A : Ans) : Prop := ∀ (H : Hp) (Q : VK), (∀ x G, Same H G → AnsAt c G x A → Q (.ref x) G) → te σ H Q
theorem hands_good {c : Cs} {σ : L2.St} : Hands c (tMakeO c.g) σ .good := fun H Q q x dx nx nd ne => q x _ (fun b o e => by
  rw [upd_ne (ne_of_none e nx), upd_ne (ne_of_none e nd)]
  exact e) ⟨dx, [], upd_same, rfl⟩
theorem hands_lone {c : Cs} {σ : L2.St} {m n : Int} : Hands c (tMake c.l (spInit2 c.l "number" "team") [] E0 (tCons (tC (.int m)) (tCons (tC (.int n)) tNil))) σ (.lone m n) := fun H Q q =>
  read_mk2 (y1 := .int m) (y2 := .int n) (fun Q q => q) (fun Q q => q) _ fun x dx G nx s e => q x G s ⟨dx, _, e, flds_lone⟩
theorem hands_twice {c : Cs} {σ : L2.St} {m n : Int} : Hands c (tMake c.t (spInit2 c.t "one" "other") [] E0 (tCons (tC (.int m)) (tCons (tC (.int n)) tNil))) σ (.twice m n) := fun H Q q =>
  read_mk2 (y1 := .int m) (y2 := .int n) (fun Q q => q) (fun Q q => q) _ fun x dx G nx s e => q x G s ⟨dx, _, e, flds_two⟩
theorem hands_never {c : Cs} {σ : L2.St} {m n : Int} : Hands c (tMake c.n (spInit2 c.n "one" "other") [] E0 (tCons (tC (.int m)) (tCons (tC (.int n)) tNil))) σ (.never m n) := fun H Q q =>
  read_mk2 (y1 := .int m) (y2 := .int n) (fun Q q => q) (fun Q q => q) _ fun x dx G nx s e => q x G s ⟨dx, _, e, flds_never⟩
/-- C(..).shows(2, a written plan) -/
theorem lit_shows {c : Cs} {σ : L2.St} {te tp : TE} {A : Ans} {pl : List (List (Int × Int))} (h : Hands c te σ A) (lit : GivesR (LAt RowAt) tp σ pl) (F : Fit 2 pl) (b : Bool) (eb : showsB 2 pl A = b) (H : Hp) (Q : VK) (q : ∀ G, Same H G → Q (.bl b) G) :
    tMethD (Shown c) "shows" te (tCons (tC (.int 2)) (tCons tp tNil)) σ H Q := by
  refine h H _ fun x G s1 ax => ?_
  obtain ⟨dx, fs, ex, fk⟩ := id ax
  refine ⟨x, dx, fs, c.of A, _, rfl, ex, fk.shows, ⟨⟨A, rfl⟩, rfl⟩, ?_⟩
  refine lit G _ fun G2 v s2 r => ?_
  exact ⟨x, 2, v, pl, A, rfl, ax.mono s2, rfl, ⟨by decide, by decide⟩, by decide, r, F.valid, F.sized, fun G3 s3 => by rw [eb]; exact q G3 ((s1.trans s2).trans s3)⟩
theorem read_lst3 {te1 te2 te3 : TE} {σ : L2.St} {H : Hp} {Q : VK} (h : te1 σ H fun v1 G => te2 σ G fun v2 G2 => te3 σ G2 fun v3 G3 => 3 ≤ sizeLine ∧ ∀ p, G3 p = none → Q (.ref p) (upd G3 p (.lst [v1, v2, v3]))) : tLst (tCons te1 (tCons te2 (tCons te3 tNil))) σ H Q := h
theorem read_lst1 {te : TE} {σ : L2.St} {H : Hp} {Q : VK} (h : te σ H fun v G => 1 ≤ sizeLine ∧ ∀ p, G p = none → Q (.ref p) (upd G p (.lst [v]))) : tLst (tCons te tNil) σ H Q := h
section
variable {P : Program} {w : World} {K : PySem.W.Frag} {mg : Str → Option Value} {base : Heap}
/-- all of what is said so -/
theorem all_said {H1 : Hp} {D p : Addr} {b : Bool} {n : Nat} {σ : L2.St} {Qd : Hp → Prop} (nD : H1 D = none) (ep : H1 p = some (.lst (List.replicate n (V.bl b)))) (n9 : n ≤ 900) (h11 : 11 < σ.length) (hd : ∀ G, Same H1 G → G D = some (.lst ((List.replicate n true).map V.bl)) → Qd G) :
    ∃ W : Nat → Nat → Hp → Prop, (∃ m, W 0 m (upd H1 D (.lst []))) ∧ ∀ i m H, W i m H →
      ((Itl K p).stop i H ∧ Qd H) ∨ ((Itl K p).go i H ∧ ∃ Nx : Hp → Prop, (∀ H', Nx H' → ∃ m', m' < m ∧ W (i + 1) m' H') ∧ ∀ x H', (Itl K p).yld i H x H' → gName 11 x (wipe σ [11]) H' fun σ2 H2 => wipe σ2 [11] = wipe σ [11] ∧ tYes σ2 H2 fun y H3 =>
        if y = true then tCall spSays [] E0 (tCons (tVar 11) (tCons (tC (.bl b)) tNil)) σ2 H3 fun y H4 => ∃ acc, H4 D = some (.lst acc) ∧ acc.length < sizeLine ∧ Nx (upd H4 D (.lst (acc ++ [y]))) else Nx H3) := by
  refine lc_list (K := K) (a := p) (xs := List.replicate n (V.bl b)) (fun i G => Same H1 G ∧ G D = some (.lst ((List.replicate i true).map V.bl))) ⟨same_upd nD, upd_same⟩ (fun i G _ h => SqL.of (h.1 _ _ ep)) ?_ ?_
  · rintro i x G hx ⟨s1, e1⟩
    have il := (List.getElem?_eq_some_iff.mp hx).1
    rw [List.length_replicate] at il
    rw [List.getElem?_replicate, if_pos il] at hx
    cases hx
    have w1 : wipe ((wipe σ [11]).set 11 (some (.bl b))) [11] = wipe σ [11] := by
      show (((σ.set 11 none).set 11 (some (.bl b))).set 11 none) = σ.set 11 none
      rw [List.set_set, List.set_set]
    have g1 : ((wipe σ [11]).set 11 (some (.bl b)))[11]? = some (some (.bl b)) := by
      rw [List.getElem?_set_self]
      show 11 < (σ.set 11 none).length
      rw [List.length_set]
      exact h11
    refine ⟨w1, .bl b, g1, b, rfl, _, e1, ?_, same_push nD s1, ?_⟩
    · rw [List.length_map, List.length_replicate]
      exact small1000 (by omega)
    · rw [upd_same, List.replicate_succ', List.map_append]
      rfl
  · rintro G ⟨s1, e1⟩
    rw [List.length_replicate] at e1
    exact hd G s1 e1
theorem ok_law4 {c : Cs} {kS : Nat} {f : Addr} {fd : FuncData} (D : Fun K "law" "law" t_law f fd) (N : Names mg) (Z : AnsC K mg c) (MG : MkO K c.g) (M : MkAns P w K mg base c) (hkS : kS ≤ 20) (hS : ∀ C sp, Shown c C sp → Serves P w K mg base kS C "shows" sp)
    (Fc : Fn P w K mg base "_law_cell_at" ["_law_script", "_law_k"] 1 (spCell K)) (Fd : Fn P w K mg base "_law_draw" ["_law_cell", "_law_k", "_law_many"] 1 spDraw) (Fps : Fn P w K mg base "_law_plans" ["_law_script", "_law_teams"] 7 (spPlans K)) (Fg : Fn P w K mg base "_law_good" ["_law_teams", "_law_plan_here"] 2 spGood)
    (Fs : Fn P w K mg base "_law_says" ["_law_said", "_law_due"] 1 spSays) (F1 : Fn P w K mg base "_law_lone_right" ["_law_teams", "_law_plan_here", "_law_number", "_law_team"] 21 spHandRight) (F2 : Fn P w K mg base "_law_two_right" ["_law_teams", "_law_plan_here", "_law_one", "_law_other"] 21 spHandRight) :
    FnOk P w K mg base CX0 22 f fd ["_law_script"] (spLaw4 K) := by
  refine D.ok scLaw4 (fun vs H Q E h => ?_) (fun cdv A outer s H vs Q E hr h => ?_)
  · obtain ⟨a, ns, rfl, _⟩ := h
    rfl
  · obtain ⟨a, ns, rfl, hS0, hlen, hbits, q⟩ := h
    refine ⟨_, pss_cons (ps_set (i := 1) scLaw4.nd rfl (.inl rfl) (pe_op op_mod (pe_f Fc hr (by decide) (by rfl) (pa_cons (pv 0) (pa_cons pe_int pa_nil))) (pe_op op_pow pe_int pe_int)))
      (pss_cons (ps_set (i := 2) scLaw4.nd rfl (.inl rfl) (pe_op op_add pe_int (pe_op op_mul pe_int (pe_f Fd hr (by decide) (by rfl) (pa_cons (pe_op op_mod (pv 1) (pe_op op_pow pe_int pe_int)) (pa_cons pe_int (pa_cons pe_int pa_nil)))))))
      (pss_cons (ps_for PassesOwn.never rfl (pi_list (pe_f Fps hr (by decide) (by rfl) (pa_cons (pv 0) (pa_cons (pv 2) pa_nil)))) (pg_name (i := 3) scLaw4.nd rfl (.inl rfl))
        (pss_cons (ps_if (pt_not (pt_val (pe_f Fs hr (by decide) (by rfl) (pa_cons (pe_methD (pe_makeO MG (by rfl) Z.mG) hS hr (Nat.le_trans hkS (by decide)) (pa_cons (pv 2) (pa_cons (pv 3) pa_nil)) (ht := mcall_of (abase_call (by decide +kernel)) fun _ => rfl)) (pa_cons (pe_f Fg hr (by decide) (by rfl) (pa_cons (pv 2) (pa_cons (pv 3) pa_nil))) pa_nil))))) (pss_one ps_never) pss_nil)
        (pss_cons (ps_set (i := 4) scLaw4.nd rfl (.inl rfl) (pe_callB call_len_seq (by rfl) N.len PySem.boot_len (pa_cons (pv 3) pa_nil)))
        (pss_cons (ps_for PassesOwn.never rfl (pi_tup (pe_tup (pa_cons (pe_un un_neg pe_int) (pa_cons pe_int (pa_cons (pe_op op_sub (pv 4) pe_int) (pa_cons (pv 4) (pa_cons (pe_op op_mod (pe_op op_fdiv (pv 1) pe_int) (pe_op op_add (pv 4) pe_int)) (pa_cons (pv 1) pa_nil)))))))) (pg_name (i := 5) scLaw4.nd rfl (.inl rfl))
          (pss_one (ps_for PassesOwn.never rfl (pi_tup (pe_tup (pa_cons (pe_un un_neg pe_int) (pa_cons pe_int (pa_cons (pe_op op_sub (pv 2) pe_int) (pa_cons (pv 2) (pa_cons (pe_op op_mod (pe_op op_fdiv (pv 1) pe_int) (pv 2)) (pa_cons (pe_un un_neg (pv 1)) pa_nil)))))))) (pg_name (i := 6) scLaw4.nd rfl (.inl rfl))
            (pss_one (ps_if (pt_not (pt_val (pe_f F1 hr (by decide) (by rfl) (pa_cons (pv 2) (pa_cons (pv 3) (pa_cons (pv 5) (pa_cons (pv 6) pa_nil))))))) (pss_one ps_never) pss_nil)))))
        (pss_one (ps_for PassesOwn.never rfl (pi_tup (pe_tup (pa_cons (pe_un un_neg pe_int) (pa_cons pe_int (pa_cons pe_int (pa_cons (pe_op op_mod (pe_op op_fdiv (pv 1) pe_int) (pv 2)) (pa_cons (pv 1) pa_nil))))))) (pg_name (i := 7) scLaw4.nd rfl (.inl rfl))
          (pss_one (ps_for PassesOwn.never rfl (pi_tup (pe_tup (pa_cons pe_int (pa_cons pe_int (pa_cons (pe_op op_sub (pv 2) pe_int) (pa_cons (pv 2) (pa_cons (pe_op op_mod (pe_op op_fdiv (pv 1) pe_int) (pv 2)) (pa_cons (pe_un un_neg pe_int) pa_nil)))))))) (pg_name (i := 8) scLaw4.nd rfl (.inl rfl))
            (pss_one (ps_if (pt_not (pt_val (pe_f F2 hr (by decide) (by rfl) (pa_cons (pv 2) (pa_cons (pv 3) (pa_cons (pv 7) (pa_cons (pv 8) pa_nil))))))) (pss_one ps_never) pss_nil))))))))))
      (pss_cons (ps_set (i := 9) scLaw4.nd rfl (.inl rfl) (pe_lst (pa_cons (pe_methD (pe_makeO MG (by rfl) Z.mG) hS hr (Nat.le_trans hkS (by decide)) (pa_cons pe_int (pa_cons (pe_lst (pa_cons (pe_lst (pa_cons (pe_tup (pa_cons pe_int (pa_cons pe_int pa_nil))) pa_nil)) pa_nil)) pa_nil)) (ht := mcall_of (abase_call (by decide +kernel)) fun _ => rfl))
          (pa_cons (pe_methD (pe_mk M.l hr (by decide) (by rfl) Z.mL (pa_cons pe_int (pa_cons pe_int pa_nil))) hS hr (Nat.le_trans hkS (by decide)) (pa_cons pe_int (pa_cons (pe_lst (pa_cons (pe_lst pa_nil) pa_nil)) pa_nil)))
          (pa_cons (pe_methD (pe_mk M.t hr (by decide) (by rfl) Z.mT (pa_cons pe_int (pa_cons pe_int pa_nil))) hS hr (Nat.le_trans hkS (by decide)) (pa_cons pe_int (pa_cons (pe_lst (pa_cons (pe_lst (pa_cons (pe_tup (pa_cons pe_int (pa_cons pe_int pa_nil))) (pa_cons (pe_tup (pa_cons pe_int (pa_cons pe_int pa_nil))) pa_nil))) pa_nil)) pa_nil))) pa_nil)))))
      (pss_cons (ps_set (i := 10) scLaw4.nd rfl (.inl rfl) (pe_lst (pa_cons (pe_methD (pe_makeO MG (by rfl) Z.mG) hS hr (Nat.le_trans hkS (by decide)) (pa_cons pe_int (pa_cons (pe_lst pa_nil) pa_nil)) (ht := mcall_of (abase_call (by decide +kernel)) fun _ => rfl))
          (pa_cons (pe_methD (pe_mk M.l hr (by decide) (by rfl) Z.mL (pa_cons pe_int (pa_cons pe_int pa_nil))) hS hr (Nat.le_trans hkS (by decide)) (pa_cons pe_int (pa_cons (pe_lst (pa_cons (pe_lst (pa_cons (pe_tup (pa_cons pe_int (pa_cons pe_int pa_nil))) pa_nil)) pa_nil)) pa_nil)))
          (pa_cons (pe_methD (pe_mk M.t hr (by decide) (by rfl) Z.mT (pa_cons pe_int (pa_cons pe_int pa_nil))) hS hr (Nat.le_trans hkS (by decide)) (pa_cons pe_int (pa_cons (pe_lst (pa_cons (pe_lst (pa_cons (pe_tup (pa_cons pe_int (pa_cons pe_int pa_nil))) (pa_cons (pe_tup (pa_cons pe_int (pa_cons pe_int pa_nil))) pa_nil))) pa_nil)) pa_nil))) pa_nil)))))
      (pss_cons (ps_par (i := 9) (j := 10) rfl scLaw4.nd rfl rfl (by decide) rfl rfl (pa_cons (pe_op op_cat (pv 9) (pe_lst (pa_cons (pe_methD (pe_mk M.n hr (by decide) (by rfl) Z.mN (pa_cons pe_int (pa_cons pe_int pa_nil))) hS hr (Nat.le_trans hkS (by decide)) (pa_cons pe_int (pa_cons (pe_lst (pa_cons (pe_lst pa_nil) pa_nil)) pa_nil))) pa_nil)))
          (pa_cons (pe_op op_cat (pv 10) (pe_lst (pa_cons (pe_methD (pe_mk M.n hr (by decide) (by rfl) Z.mN (pa_cons pe_int (pa_cons pe_int pa_nil))) hS hr (Nat.le_trans hkS (by decide)) (pa_cons pe_int (pa_cons (pe_lst (pa_cons (pe_lst (pa_cons (pe_tup (pa_cons pe_int (pa_cons pe_int pa_nil))) pa_nil)) pa_nil)) pa_nil))) pa_nil))) pa_nil)) (by rfl))
      (pss_one (ps_ret (pe_and (pe_callB (cr_all rfl) (by rfl) N.all boot_all (pa_cons
          (pe_lc (own := [("_law_said", 11)]) (g := gName 11) (tt := tYes) (te := tCall spSays [] E0 (tCons (tVar 11) (tCons (tC (.bl true)) tNil))) rfl scLaw4.nd (pi_list (pv 9))
            (blkOk_by (N := ["_law_script", "_law_cell", "_law_teams", "_law_plan_here", "_law_size", "_law_number", "_law_team", "_law_one", "_law_other", "_law_good_here", "_law_bad", "_law_said"]) (sc := defScope t_law) (by decide +kernel))
            (fun _ _ _ _ _ => pg_name (i := 11) scLaw4.nd rfl (Or.inl rfl)) (fun _ _ _ _ _ => pts_nil) (fun _ _ _ _ _ => pe_f Fs hr (by decide) (by rfl) (pa_cons (pv 11) (pa_cons pe_bl pa_nil)))) pa_nil))
        (pe_one (pe_callB (cr_all rfl) (by rfl) N.all boot_all (pa_cons
          (pe_lc (own := [("_law_said", 11)]) (g := gName 11) (tt := tYes) (te := tCall spSays [] E0 (tCons (tVar 11) (tCons (tC (.bl false)) tNil))) rfl scLaw4.nd (pi_list (pv 10))
            (blkOk_by (N := ["_law_script", "_law_cell", "_law_teams", "_law_plan_here", "_law_size", "_law_number", "_law_team", "_law_one", "_law_other", "_law_good_here", "_law_bad", "_law_said"]) (sc := defScope t_law) (by decide +kernel))
            (fun _ _ _ _ _ => pg_name (i := 11) scLaw4.nd rfl (Or.inl rfl)) (fun _ _ _ _ _ => pts_nil) (fun _ _ _ _ _ => pe_f Fs hr (by decide) (by rfl) (pa_cons (pv 11) (pa_cons pe_bl pa_nil)))) pa_nil))))))))))), ?_⟩
    refine ⟨.ref a, rfl, a, ns, 0, rfl, hS0, by decide, fun z0 hz => ⟨10, 30, rfl, rfl, ⟨by decide, by decide, by decide⟩, z0, _, rfl, rfl, (by show (0 : Int) < (10 : Int) ^ (30 : Int).toNat; decide), ?_⟩⟩
    refine (?_ : gName 1 (V.int (z0 % (10 : Int) ^ (30 : Int).toNat)) _ _ _)
    generalize z0 % (10 : Int) ^ (30 : Int).toNat = z
    refine ⟨.int z, rfl, 10, 18, rfl, rfl, ⟨by decide, by decide, by decide⟩, z, _, rfl, rfl, (by show (0 : Int) < (10 : Int) ^ (18 : Int).toNat; decide), _, 4, 5, rfl, by decide, fun u H1 u0 u1 s1 => ⟨2, u, rfl, rfl, .inl ⟨by decide, by decide⟩, 2, 2 * u, rfl, rfl, ?_⟩⟩
    refine (?_ : gName 2 (V.int (2 + 2 * u)) _ _ _)
    have T : TOk (2 + 2 * u) := ⟨by omega, by omega⟩
    have t10 : 2 + 2 * u ≤ 10 := by omega
    generalize 2 + 2 * u = t at T t10 ⊢
    have t2 := T.two
    refine ⟨.ref a, rfl, .int t, rfl, a, ns, t, rfl, s1.seq hS0, hbits, T, by omega, fun H2 pp pls s2 hL l15 _ hF => ?_⟩
    obtain ⟨vs, ep, kp⟩ := hL.spot
    have vl := kp.len
    refine ⟨pp, rfl, ⟨_, SqL.of ep⟩, for_list (K := K) (a := pp) (xs := vs) (fun i σ G => ∃ y3 y4 y5 y6 y7 y8, σ = [some (.ref a), some (.int z), some (.int t), y3, y4, y5, y6, y7, y8, none, none, none] ∧ Same H2 G) ⟨_, _, _, _, _, _, rfl, Same.refl _⟩ (fun i σ G _ ⟨_, _, _, _, _, _, _, h⟩ => SqL.of (h _ _ ep)) ?_ ?_⟩
    · rintro i x σ G hx ⟨y3, y4, y5, y6, y7, y8, rfl, s3⟩
      obtain ⟨pl, hpl, rx⟩ := kp.at hx
      have F := hF pl (List.mem_of_getElem? hpl)
      obtain ⟨qx, ux, rfl, eqx, kx⟩ := rx.mono monRow s3
      have ul := kx.len
      have hP : PlanAt G qx pl := ⟨ux, eqx, kx⟩
      intro xg dg nx nd ne
      have sg : Same G (upd (upd G dg (.own xg)) xg (.ins c.g dg [])) := fun b o e => by
        rw [upd_ne (ne_of_none e nx), upd_ne (ne_of_none e nd)]
        exact e
      refine ⟨xg, dg, [], c.g, _, rfl, upd_same, rfl, ⟨⟨.good, rfl⟩, rfl⟩, .int t, rfl, .ref qx, rfl, xg, t, .ref qx, pl, .good, rfl, ⟨dg, [], upd_same, rfl⟩, rfl, T, by omega, plan_lat.mp (hP.mono sg), F.valid, F.sized, fun G2 s4 => ?_⟩
      have s5 := sg.trans s4
      refine ⟨.int t, rfl, .ref qx, rfl, t, qx, pl, rfl, hP.mono s5, t2, by omega, F.sized, fun G3 s6 => ⟨goodB t pl, rfl, true, rfl, iteF ?_⟩⟩
      have s7 := s5.trans s6
      have hP3 := hP.mono s7
      have s8 := s3.trans s7
      refine ⟨.ref qx, rfl, qx, ux, rfl, .inl (SqL.of (s7 _ _ eqx)), ?_⟩
      have z1 : 0 < ((ux.length : Nat) : Int) + 1 := by omega
      refine (?_ : gName 4 (V.int ((ux.length : Nat) : Int)) _ _ _)
      generalize ((ux.length : Nat) : Int) = sz at z1 ⊢
      -- rounds and teams
      refine ⟨1, rfl, .int sz, rfl, sz, 1, rfl, rfl, .int sz, rfl, .int z, rfl, z, 3, rfl, rfl, ⟨by decide, by decide⟩, .int sz, rfl, sz, 1, rfl, rfl, z / 3, sz + 1, rfl, rfl, z1, .int z, rfl, by show 6 ≤ sizeLine; decide, fun b nb => ?_⟩
      have h6 : ∀ x ∈ [V.int (-1), V.int 0, V.int (sz - 1), V.int sz, V.int (z / 3 % (sz + 1)), V.int z], ∃ k : Int, x = V.int k := by
        simp only [List.mem_cons, List.not_mem_nil, or_false]
        rintro x (rfl | rfl | rfl | rfl | rfl | rfl) <;> exact ⟨_, rfl⟩
      have sb := same_upd (o := .tup [V.int (-1), V.int 0, V.int (sz - 1), V.int sz, V.int (z / 3 % (sz + 1)), V.int z]) nb
      have eb : upd G3 b (.tup [V.int (-1), V.int 0, V.int (sz - 1), V.int sz, V.int (z / 3 % (sz + 1)), V.int z]) b = some (.tup [V.int (-1), V.int 0, V.int (sz - 1), V.int sz, V.int (z / 3 % (sz + 1)), V.int z]) := upd_same
      refine ⟨b, rfl, ⟨_, SqT.of eb⟩, ?_⟩
      generalize [V.int (-1), V.int 0, V.int (sz - 1), V.int sz, V.int (z / 3 % (sz + 1)), V.int z] = six at *
      generalize upd G3 b (.tup six) = G4 at *
      refine for_tup (K := K) (a := b) (xs := six) (fun i σ G' => ∃ y5 y6, σ = [some (.ref a), some (.int z), some (.int t), some (.ref qx), some (.int sz), y5, y6, y7, y8, none, none, none] ∧ Same G4 G') ⟨_, _, rfl, Same.refl _⟩ (fun i σ G' _ ⟨_, _, _, h⟩ => SqT.of (h _ _ eb)) ?_ ?_
      · rintro i2 x σ G5 hx2 ⟨w5, w6, rfl, s9⟩
        obtain ⟨num, rfl⟩ := h6 x (List.mem_of_getElem? hx2)
        refine ⟨1, rfl, .int t, rfl, t, 1, rfl, rfl, .int t, rfl, .int z, rfl, z, 7, rfl, rfl, ⟨by decide, by decide⟩, .int t, rfl, z / 7, t, rfl, rfl, (by show (0 : Int) < t; omega), .int z, rfl, z, rfl, by show 6 ≤ sizeLine; decide, fun b2 nb2 => ?_⟩
        have k6 : ∀ x ∈ [V.int (-1), V.int 0, V.int (t - 1), V.int t, V.int (z / 7 % t), V.int (-z)], ∃ k : Int, x = V.int k := by
          simp only [List.mem_cons, List.not_mem_nil, or_false]
          rintro x (rfl | rfl | rfl | rfl | rfl | rfl) <;> exact ⟨_, rfl⟩
        have sb2 := same_upd (o := .tup [V.int (-1), V.int 0, V.int (t - 1), V.int t, V.int (z / 7 % t), V.int (-z)]) nb2
        have eb2 : upd G5 b2 (.tup [V.int (-1), V.int 0, V.int (t - 1), V.int t, V.int (z / 7 % t), V.int (-z)]) b2 = some (.tup [V.int (-1), V.int 0, V.int (t - 1), V.int t, V.int (z / 7 % t), V.int (-z)]) := upd_same
        refine ⟨b2, rfl, ⟨_, SqT.of eb2⟩, ?_⟩
        generalize [V.int (-1), V.int 0, V.int (t - 1), V.int t, V.int (z / 7 % t), V.int (-z)] = sev at *
        generalize upd G5 b2 (.tup sev) = G6 at *
        refine for_tup (K := K) (a := b2) (xs := sev) (fun i σ G' => ∃ y6, σ = [some (.ref a), some (.int z), some (.int t), some (.ref qx), some (.int sz), some (.int num), y6, y7, y8, none, none, none] ∧ Same G6 G') ⟨_, rfl, Same.refl _⟩ (fun i σ G' _ ⟨_, _, h⟩ => SqT.of (h _ _ eb2)) ?_ ?_
        · rintro i3 x σ G7 hx3 ⟨w6, rfl, s10⟩
          obtain ⟨team, rfl⟩ := k6 x (List.mem_of_getElem? hx3)
          exact ⟨.int t, rfl, .ref qx, rfl, .int num, rfl, .int team, rfl, t, qx, pl, num, team, rfl, T, by omega, hP3.mono (((sb.trans s9).trans sb2).trans s10), F, fun G8 s11 => ⟨true, rfl, iteF ⟨_, rfl, s10.trans s11⟩⟩⟩
        · rintro σ G7 ⟨w6, rfl, s10⟩
          exact ⟨_, _, rfl, (s9.trans sb2).trans s10⟩
      · rintro σ G5 ⟨w5, w6, rfl, s9⟩
        have s12 := sb.trans s9
        have hP5 := hP3.mono s12
        -- two teams
        refine ⟨1, rfl, .int z, rfl, z, 5, rfl, rfl, ⟨by decide, by decide⟩, .int t, rfl, z / 5, t, rfl, rfl, (by show (0 : Int) < t; omega), .int z, rfl, by show 5 ≤ sizeLine; decide, fun b nb => ?_⟩
        have h5 : ∀ x ∈ [V.int (-1), V.int 0, V.int 1, V.int (z / 5 % t), V.int z], ∃ k : Int, x = V.int k := by
          simp only [List.mem_cons, List.not_mem_nil, or_false]
          rintro x (rfl | rfl | rfl | rfl | rfl) <;> exact ⟨_, rfl⟩
        have sb := same_upd (o := .tup [V.int (-1), V.int 0, V.int 1, V.int (z / 5 % t), V.int z]) nb
        have eb : upd G5 b (.tup [V.int (-1), V.int 0, V.int 1, V.int (z / 5 % t), V.int z]) b = some (.tup [V.int (-1), V.int 0, V.int 1, V.int (z / 5 % t), V.int z]) := upd_same
        refine ⟨b, rfl, ⟨_, SqT.of eb⟩, ?_⟩
        generalize [V.int (-1), V.int 0, V.int 1, V.int (z / 5 % t), V.int z] = five at *
        generalize upd G5 b (.tup five) = G6 at *
        refine for_tup (K := K) (a := b) (xs := five) (fun i σ G' => ∃ y7 y8, σ = [some (.ref a), some (.int z), some (.int t), some (.ref qx), some (.int sz), w5, w6, y7, y8, none, none, none] ∧ Same G6 G') ⟨_, _, rfl, Same.refl _⟩ (fun i σ G' _ ⟨_, _, _, h⟩ => SqT.of (h _ _ eb)) ?_ ?_
        · rintro i2 x σ G7 hx2 ⟨w7, w8, rfl, s13⟩
          obtain ⟨one, rfl⟩ := h5 x (List.mem_of_getElem? hx2)
          refine ⟨.int t, rfl, t, 1, rfl, rfl, .int t, rfl, .int z, rfl, z, 11, rfl, rfl, ⟨by decide, by decide⟩, .int t, rfl, z / 11, t, rfl, rfl, (by show (0 : Int) < t; omega), 1, rfl, by show 6 ≤ sizeLine; decide, fun b2 nb2 => ?_⟩
          have k6 : ∀ x ∈ [V.int 0, V.int 1, V.int (t - 1), V.int t, V.int (z / 11 % t), V.int (-1)], ∃ k : Int, x = V.int k := by
            simp only [List.mem_cons, List.not_mem_nil, or_false]
            rintro x (rfl | rfl | rfl | rfl | rfl | rfl) <;> exact ⟨_, rfl⟩
          have sb2 := same_upd (o := .tup [V.int 0, V.int 1, V.int (t - 1), V.int t, V.int (z / 11 % t), V.int (-1)]) nb2
          have eb2 : upd G7 b2 (.tup [V.int 0, V.int 1, V.int (t - 1), V.int t, V.int (z / 11 % t), V.int (-1)]) b2 = some (.tup [V.int 0, V.int 1, V.int (t - 1), V.int t, V.int (z / 11 % t), V.int (-1)]) := upd_same
          refine ⟨b2, rfl, ⟨_, SqT.of eb2⟩, ?_⟩
          generalize [V.int 0, V.int 1, V.int (t - 1), V.int t, V.int (z / 11 % t), V.int (-1)] = sev at *
          generalize upd G7 b2 (.tup sev) = G8 at *
          refine for_tup (K := K) (a := b2) (xs := sev) (fun i σ G' => ∃ y8, σ = [some (.ref a), some (.int z), some (.int t), some (.ref qx), some (.int sz), w5, w6, some (.int one), y8, none, none, none] ∧ Same G8 G') ⟨_, rfl, Same.refl _⟩ (fun i σ G' _ ⟨_, _, h⟩ => SqT.of (h _ _ eb2)) ?_ ?_
          · rintro i3 x σ G9 hx3 ⟨w8, rfl, s14⟩
            obtain ⟨other, rfl⟩ := k6 x (List.mem_of_getElem? hx3)
            exact ⟨.int t, rfl, .ref qx, rfl, .int one, rfl, .int other, rfl, t, qx, pl, one, other, rfl, T, by omega, hP5.mono (((sb.trans s13).trans sb2).trans s14), F, fun G10 s15 => ⟨true, rfl, iteF ⟨_, rfl, s14.trans s15⟩⟩⟩
          · rintro σ G9 ⟨w8, rfl, s14⟩
            exact ⟨_, _, rfl, (s13.trans sb2).trans s14⟩
        · rintro σ G7 ⟨w7, w8, rfl, s13⟩
          exact ⟨_, _, _, _, _, _, rfl, ((s8.trans s12).trans sb).trans s13⟩
    · rintro σ G ⟨y3, y4, y5, y6, y7, y8, rfl, s3⟩
      try dsimp only
      refine seq_set ?_
      refine read_lst3 ?_
      refine lit_shows hands_good (gr_lst (R := RowAt) (xs := [[(0, 1)]]) monRow (gr_cons monRow (gr_row (xs := [(0, 1)]) (gr_cons monPair (gr_pair (m := 0) (n := 1)) gr_nil) (by decide)) gr_nil) (by decide)) (small_fit (by decide) (by decide)) true (by decide +kernel) _ _ fun G1 r1 => ?_
      refine lit_shows hands_lone (gr_lst (R := RowAt) (xs := [[]]) monRow (gr_cons monRow (gr_row (xs := []) gr_nil (by decide)) gr_nil) (by decide)) (small_fit (by decide) (by decide)) true (by decide +kernel) _ _ fun G2 r2 => ?_
      refine lit_shows hands_twice (gr_lst (R := RowAt) (xs := [[(0, 1), (1, 0)]]) monRow (gr_cons monRow (gr_row (xs := [(0, 1), (1, 0)]) (gr_cons monPair (gr_pair (m := 0) (n := 1)) (gr_cons monPair (gr_pair (m := 1) (n := 0)) gr_nil)) (by decide)) gr_nil) (by decide)) (small_fit (by decide) (by decide)) true (by decide +kernel) _ _ fun G3 r3 => ?_
      refine ⟨by show 3 ≤ sizeLine; decide, fun p9 n9 => ?_⟩
      have e9 : upd G3 p9 (.lst [.bl true, .bl true, .bl true]) p9 = some (.lst [.bl true, .bl true, .bl true]) := upd_same
      generalize upd G3 p9 (.lst [.bl true, .bl true, .bl true]) = GA at e9
      try dsimp only
      refine seq_set ?_
      refine read_lst3 ?_
      refine lit_shows hands_good (gr_lst (R := RowAt) (xs := []) monRow gr_nil (by decide)) (small_fit (by decide) (by decide)) false (by decide +kernel) _ _ fun G4 r4 => ?_
      refine lit_shows hands_lone (gr_lst (R := RowAt) (xs := [[(0, 1)]]) monRow (gr_cons monRow (gr_row (xs := [(0, 1)]) (gr_cons monPair (gr_pair (m := 0) (n := 1)) gr_nil) (by decide)) gr_nil) (by decide)) (small_fit (by decide) (by decide)) false (by decide +kernel) _ _ fun G5 r5 => ?_
      refine lit_shows hands_twice (gr_lst (R := RowAt) (xs := [[(0, 1), (1, 0)]]) monRow (gr_cons monRow (gr_row (xs := [(0, 1), (1, 0)]) (gr_cons monPair (gr_pair (m := 0) (n := 1)) (gr_cons monPair (gr_pair (m := 1) (n := 0)) gr_nil)) (by decide)) gr_nil) (by decide)) (small_fit (by decide) (by decide)) false (by decide +kernel) _ _ fun G6 r6 => ?_
      refine ⟨by show 3 ≤ sizeLine; decide, fun p10 n10 => ?_⟩
      have e10 : upd G6 p10 (.lst [.bl false, .bl false, .bl false]) p10 = some (.lst [.bl false, .bl false, .bl false]) := upd_same
      have e9' := same_upd (o := .lst [.bl false, .bl false, .bl false]) n10 _ _ (((r4.trans r5).trans r6) _ _ e9)
      generalize upd G6 p10 (.lst [.bl false, .bl false, .bl false]) = GB at e9' e10
      try dsimp only
      refine ⟨.ref p9, rfl, ?_⟩
      refine read_lst1 ?_
      refine lit_shows hands_never (gr_lst (R := RowAt) (xs := [[]]) monRow (gr_cons monRow (gr_row (xs := []) gr_nil (by decide)) gr_nil) (by decide)) (small_fit (by decide) (by decide)) true (by decide +kernel) _ _ fun G7 r7 => ?_
      refine ⟨by show 1 ≤ sizeLine; decide, fun l1 m1 => ?_⟩
      have s1' := same_upd (o := .lst [.bl true]) m1
      refine ⟨p9, l1, _, _, rfl, rfl, s1' _ _ (r7 _ _ e9'), upd_same, by show 4 ≤ sizeLine; decide, fun q9 n9' => ?_⟩
      have s2' := same_upd (o := .lst ([.bl true, .bl true, .bl true] ++ [.bl true])) n9'
      have f9 : (upd (upd G7 l1 (.lst [.bl true])) q9 (.lst ([.bl true, .bl true, .bl true] ++ [.bl true]))) q9 = some (.lst (List.replicate 4 (V.bl true))) := upd_same
      have f10 := s2' _ _ (s1' _ _ (r7 _ _ e10))
      generalize upd (upd G7 l1 (.lst [.bl true])) q9 (.lst ([.bl true, .bl true, .bl true] ++ [.bl true])) = GC at f9 f10
      refine ⟨.ref p10, rfl, ?_⟩
      refine read_lst1 ?_
      refine lit_shows hands_never (gr_lst (R := RowAt) (xs := [[(1, 0)]]) monRow (gr_cons monRow (gr_row (xs := [(1, 0)]) (gr_cons monPair (gr_pair (m := 1) (n := 0)) gr_nil) (by decide)) gr_nil) (by decide)) (small_fit (by decide) (by decide)) false (by decide +kernel) _ _ fun G8 r8 => ?_
      refine ⟨by show 1 ≤ sizeLine; decide, fun l2 m2 => ?_⟩
      have s3' := same_upd (o := .lst [.bl false]) m2
      refine ⟨p10, l2, _, _, rfl, rfl, s3' _ _ (r8 _ _ f10), upd_same, by show 4 ≤ sizeLine; decide, fun q10 n10' => ?_⟩
      have s4' := same_upd (o := .lst ([.bl false, .bl false, .bl false] ++ [.bl false])) n10'
      have g10 : (upd (upd G8 l2 (.lst [.bl false])) q10 (.lst ([.bl false, .bl false, .bl false] ++ [.bl false]))) q10 = some (.lst (List.replicate 4 (V.bl false))) := upd_same
      have g9 := s4' _ _ (s3' _ _ (r8 _ _ f9))
      generalize upd (upd G8 l2 (.lst [.bl false])) q10 (.lst ([.bl false, .bl false, .bl false] ++ [.bl false])) = GD at g9 g10
      refine ⟨_, _, rfl, ?_⟩
      refine ⟨.ref q9, rfl, q9, rfl, ⟨_, SqL.of g9⟩, fun D1 nD1 => all_said (n := 4) nD1 g9 (by decide) (by show 11 < 12; decide) fun GE sE eE => ?_⟩
      refine ⟨D1, List.replicate 4 true, rfl, SqL.of eE, true, congrArg V.bl (all_rep 4), iteT ?_⟩
      refine ⟨.ref q10, rfl, q10, rfl, ⟨_, SqL.of (sE _ _ g10)⟩, fun D2 nD2 => all_said (n := 4) nD2 (sE _ _ g10) (by decide) (by show 11 < 12; decide) fun GF sF eF => ?_⟩
      refine ⟨D2, List.replicate 4 true, rfl, SqL.of eF, ?_⟩
      rw [all_rep]
      exact q GF
end
end EM
namespace EM
open PySem PySem.Spec PyProof.Rows L2
theorem def_mk {K : PySem.W.Frag} {h : Heap} {mg : Str → Option Value} (X : K.In h) (G : h.Ns mainGlobals mg) {x : Str} {st : Stmt} {ps : List Str} {f : Addr} {oc : Value} {od an : Option Addr} {osl : Array (Option Value)} {kV doc pm cdv ct : Value}
    (a : PySem.W.nsIn K mainGlobals x = some (some (.ref f))) (l : K.lookup f = some ⟨oc, od, .func (PySem.W.fnOf x x (defArgs st) (defBody st) (defScope st) .none kV doc pm an cdv ct), osl⟩) (c : PySem.W.codeIn K cdv x = true) (k : PySem.W.keepIn K (.ref f) = true)
    (b : ∀ (kV doc pm : Value) (an : Option Addr) (cdv ct : Value) (us : List Value), us.length = ps.length → bindArgs (PySem.W.fnOf x x (defArgs st) (defBody st) (defScope st) .none kV doc pm an cdv ct) ⟨us, []⟩ = pure (ps.zip us)) : DefAt K mg x st ps :=
  ⟨f, _, fun_mk (st := st) l c k, (fun_mk (st := st) l c k).binds b, PySem.W.mg_of X G a⟩
theorem int_mk {K : PySem.W.Frag} {h : Heap} {mg : Str → Option Value} {x : Str} {n : Int} {tk : Tok} (X : K.In h) (G : h.Ns mainGlobals mg) (a : PySem.W.nsIn K mainGlobals x = some (some (.int n tk))) : ∃ tk, mg x = some (.int n tk) := ⟨tk, PySem.W.mg_of X G a⟩
theorem bits_log {z : Int} (h : Builtin.Int.intBits z ≤ 1048576) : bits20 z := by
  unfold Builtin.Int.intBits at h
  show z.natAbs.log2 ≤ 1048576
  by_cases e : z.natAbs = 0
  · rw [e]
    decide
  · rcases z with (_ | n) | n <;> simp_all <;> omega
theorem meth_mk {K : PySem.W.Frag} {C : Addr} {m qual : Str} {st : Stmt} {ps : List Str} {f : Addr} {oc : Value} {od an : Option Addr} {osl : Array (Option Value)} {kV doc pm cdv ct : Value} (a : PySem.W.findIn K (.ref C) m = some (some (.ref f))) (i : PySem.W.isFn K (.ref f) = true)
    (l : K.lookup f = some ⟨oc, od, .func (PySem.W.fnOf m qual (defArgs st) (defBody st) (defScope st) .none kV doc pm an cdv ct), osl⟩) (c : PySem.W.codeIn K cdv qual = true) (k : PySem.W.keepIn K (.ref f) = true)
    (b : ∀ (kV doc pm : Value) (an : Option Addr) (cdv ct : Value) (us : List Value), us.length = ps.length → bindArgs (PySem.W.fnOf m qual (defArgs st) (defBody st) (defScope st) .none kV doc pm an cdv ct) ⟨us, []⟩ = pure (ps.zip us)) : MethAt K C m qual st ps :=
  ⟨f, _, fun_mk (st := st) l c k, (fun_mk (st := st) l c k).binds b, ⟨a, i, k⟩⟩
/-- what the top has made of one class of answers -/
structure ClsFacts (K : PySem.W.Frag) (C : Addr) : Prop where
  pg : PySem.W.plainGet K C Str.empty = true
  hd : PySem.W.hasDictIn K C = true
  po : PySem.W.plainOver K C = true
  sa : PySem.W.findIn K (.ref C) "__setattr__" = some (some (.builtin "object.__setattr__"))
  ha : PySem.W.findIn K (.ref C) "__class__" = some (some (.builtin "object.__class__"))
  hm : PySem.W.mroIn K C (.type "object") = some true
theorem ClsFacts.ins {K : PySem.W.Frag} {C : Addr} (x : ClsFacts K C) (hn : PySem.W.specialIn K (.builtin "object.__class__") "__get__" = some (some (.builtin "getset_descriptor.__get__"))) (ht : PySem.W.takesIn K (.builtin "object.__class__") = some true) : InsC K C := ⟨⟨x.pg, x.hd, x.po, x.sa⟩, x.ha, hn, ht, x.hm⟩
/-- which of the four classes is which -/
structure Kits (K : PySem.W.Frag) (c : Cs) : Prop where
  gg : PySem.W.kitOne K (.ref c.g) (.ref c.g) = some true
  gl : PySem.W.kitOne K (.ref c.g) (.ref c.l) = some false
  gt : PySem.W.kitOne K (.ref c.g) (.ref c.t) = some false
  gn : PySem.W.kitOne K (.ref c.g) (.ref c.n) = some false
  lg : PySem.W.kitOne K (.ref c.l) (.ref c.g) = some false
  ll : PySem.W.kitOne K (.ref c.l) (.ref c.l) = some true
  lt : PySem.W.kitOne K (.ref c.l) (.ref c.t) = some false
  ln : PySem.W.kitOne K (.ref c.l) (.ref c.n) = some false
  tg : PySem.W.kitOne K (.ref c.t) (.ref c.g) = some false
  tl : PySem.W.kitOne K (.ref c.t) (.ref c.l) = some false
  tt : PySem.W.kitOne K (.ref c.t) (.ref c.t) = some true
  tn : PySem.W.kitOne K (.ref c.t) (.ref c.n) = some false
  ng : PySem.W.kitOne K (.ref c.n) (.ref c.g) = some false
  nl : PySem.W.kitOne K (.ref c.n) (.ref c.l) = some false
  nt : PySem.W.kitOne K (.ref c.n) (.ref c.t) = some false
  nn : PySem.W.kitOne K (.ref c.n) (.ref c.n) = some true
theorem ansC_mk {K : PySem.W.Frag} {mg : Str → Option Value} {c : Cs} (mG : mg "Good" = some (.ref c.g)) (mL : mg "Lone" = some (.ref c.l)) (mT : mg "Twice" = some (.ref c.t)) (mN : mg "Never" = some (.ref c.n)) (ig : InsC K c.g) (il : InsC K c.l) (it : InsC K c.t) (ik : InsC K c.n) (k : Kits K c)
    (a1 : NoAttr K c.l "number") (a2 : NoAttr K c.l "team") (a3 : NoAttr K c.t "one") (a4 : NoAttr K c.t "other") (a5 : NoAttr K c.n "one") (a6 : NoAttr K c.n "other") : AnsC K mg c :=
  ⟨mG, mL, mT, mN, fun A => by cases A with
    | good => exact ig
    | lone _ _ => exact il
    | twice _ _ => exact it
    | never _ _ => exact ik, fun A B => by cases A with
    | good => cases B with
      | good => exact k.gg
      | lone _ _ => exact k.gl
      | twice _ _ => exact k.gt
      | never _ _ => exact k.gn
    | lone _ _ => cases B with
      | good => exact k.lg
      | lone _ _ => exact k.ll
      | twice _ _ => exact k.lt
      | never _ _ => exact k.ln
    | twice _ _ => cases B with
      | good => exact k.tg
      | lone _ _ => exact k.tl
      | twice _ _ => exact k.tt
      | never _ _ => exact k.tn
    | never _ _ => cases B with
      | good => exact k.ng
      | lone _ _ => exact k.nl
      | twice _ _ => exact k.nt
      | never _ _ => exact k.nn, a1, a2, a3, a4, a5, a6⟩
structure Text (K : PySem.W.Frag) (mg : Str → Option Value) (c : Cs) : Prop where
  names : Names mg
  n_list : mg "list" = none
  n_sum : mg "sum" = none
  d_is_number : DefAt K mg "is_number" t_is_number ["value"]
  d_is_counted : DefAt K mg "is_counted" t_is_counted ["many", "value"]
  d_check_teams : DefAt K mg "check_teams" t_check_teams ["teams"]
  d_check_team : DefAt K mg "check_team" t_check_team ["teams", "team"]
  d_check_round : DefAt K mg "check_round" t_check_round ["teams", "number"]
  d_pairs_of_each : DefAt K mg "pairs_of_each" t_pairs_of_each ["teams", "pairs"]
  d_pairs_of_two : DefAt K mg "pairs_of_two" t_pairs_of_two ["teams", "plan"]
  d__all_one : DefAt K mg "_all_one" t__all_one ["counts"]
  d__are_two : DefAt K mg "_are_two" t__are_two ["teams", "one", "other"]
  d_opponent : DefAt K mg "opponent" t_opponent ["teams", "team", "number"]
  d_at_home : DefAt K mg "at_home" t_at_home ["teams", "team", "number"]
  d__check_team_in_round : DefAt K mg "_check_team_in_round" t__check_team_in_round ["teams", "team", "number"]
  d__law_cell_at : DefAt K mg "_law_cell_at" t__law_cell_at ["_law_script", "_law_k"]
  d__law_draw : DefAt K mg "_law_draw" t__law_draw ["_law_cell", "_law_k", "_law_many"]
  d__law_value : DefAt K mg "_law_value" t__law_value ["_law_cell", "_law_k", "_law_limit"]
  d__law_plan : DefAt K mg "_law_plan" t__law_plan ["_law_teams"]
  d__law_often : DefAt K mg "_law_often" t__law_often ["_law_plan_here", "_law_one", "_law_other"]
  d__law_lone : DefAt K mg "_law_lone" t__law_lone ["_law_plan_here", "_law_number", "_law_team"]
  d__law_good : DefAt K mg "_law_good" t__law_good ["_law_teams", "_law_plan_here"]
  d__law_plans : DefAt K mg "_law_plans" t__law_plans ["_law_script", "_law_teams"]
  d__law_says : DefAt K mg "_law_says" t__law_says ["_law_said", "_law_due"]
  d__law_lone_right : DefAt K mg "_law_lone_right" t__law_lone_right ["_law_teams", "_law_plan_here", "_law_number", "_law_team"]
  d__law_two_right : DefAt K mg "_law_two_right" t__law_two_right ["_law_teams", "_law_plan_here", "_law_one", "_law_other"]
  mc_g : mg "Good" = some (.ref c.g)
  mc_l : mg "Lone" = some (.ref c.l)
  mc_t : mg "Twice" = some (.ref c.t)
  mc_n : mg "Never" = some (.ref c.n)
  hn : PySem.W.specialIn K (.builtin "object.__class__") "__get__" = some (some (.builtin "getset_descriptor.__get__"))
  ht : PySem.W.takesIn K (.builtin "object.__class__") = some true
  cf_g : ClsFacts K c.g
  cf_l : ClsFacts K c.l
  cf_t : ClsFacts K c.t
  cf_n : ClsFacts K c.n
  kits : Kits K c
  mkg : MkO K c.g
  nol0 : PySem.W.findIn K (.ref c.l) "number" = some none
  nol1 : PySem.W.findIn K (.ref c.l) "team" = some none
  init_l : MethAt K c.l "__init__" "Lone.__init__" i_Lone ["self", "number", "team"]
  mkl : PySem.W.makesIn K c.l = true
  kpl : PySem.W.keepIn K (.ref c.l) = true
  not0 : PySem.W.findIn K (.ref c.t) "one" = some none
  not1 : PySem.W.findIn K (.ref c.t) "other" = some none
  init_t : MethAt K c.t "__init__" "Twice.__init__" i_Twice ["self", "one", "other"]
  mkt : PySem.W.makesIn K c.t = true
  kpt : PySem.W.keepIn K (.ref c.t) = true
  non0 : PySem.W.findIn K (.ref c.n) "one" = some none
  non1 : PySem.W.findIn K (.ref c.n) "other" = some none
  init_n : MethAt K c.n "__init__" "Never.__init__" i_Never ["self", "one", "other"]
  mkn : PySem.W.makesIn K c.n = true
  kpn : PySem.W.keepIn K (.ref c.n) = true
  show_g : MethAt K c.g "shows" "Good.shows" s_Good ["self", "teams", "plan"]
  show_l : MethAt K c.l "shows" "Lone.shows" s_Lone ["self", "teams", "plan"]
  show_t : MethAt K c.t "shows" "Twice.shows" s_Twice ["self", "teams", "plan"]
  show_n : MethAt K c.n "shows" "Never.shows" s_Never ["self", "teams", "plan"]
theorem Text.law {P : Program} {w : World} {K : PySem.W.Frag} {mg : Str → Option Value} {base : Heap} {c : Cs} (T : Text K mg c) {f : Addr} {fd : FuncData} (D : Fun K "law" "law" t_law f fd) : FnOk P w K mg base CX0 22 f fd ["_law_script"] (spLaw4 K) := by
  have N := T.names
  have Z : AnsC K mg c := ansC_mk T.mc_g T.mc_l T.mc_t T.mc_n (T.cf_g.ins T.hn T.ht) (T.cf_l.ins T.hn T.ht) (T.cf_t.ins T.hn T.ht) (T.cf_n.ins T.hn T.ht) T.kits T.nol0 T.nol1 T.not0 T.not1 T.non0 T.non1
  have num := fn_isNumber (P := P) (w := w) (base := base) T.d_is_number N
  have cnt := fn_counted T.d_is_counted num
  have ct := fn_chkTeams T.d_check_teams num
  have ca := fn_chkTeam T.d_check_team cnt
  have cr := fn_chkRound T.d_check_round cnt
  have tr := fn_chkTR T.d__check_team_in_round ct ca cr
  have op := fn_opponent T.d_opponent tr
  have ho := fn_atHome T.d_at_home tr
  have ea := fn_each (P := P) (w := w) (base := base) T.d_pairs_of_each
  have tw := fn_two0 (P := P) (w := w) (base := base) T.d_pairs_of_two N
  have M : MkAns P w K mg base c := ⟨T.init_l.makes T.mkl T.kpl fun f fd F => ok_init_Lone (Z.ins (.lone 0 0)).cls T.nol0 T.nol1 F, T.init_t.makes T.mkt T.kpt fun f fd F => ok_init_Twice (Z.ins (.twice 0 0)).cls T.not0 T.not1 F, T.init_n.makes T.mkn T.kpn fun f fd F => ok_init_Never (Z.ins (.never 0 0)).cls T.non0 T.non1 F⟩
  have ao := fn_allOne (P := P) (w := w) (base := base) T.d__all_one N
  have at2 := fn_areTwo T.d__are_two cnt
  have sh : ∀ C sp, Shown c C sp → Serves P w K mg base 4 C "shows" sp := fun C sp h => by
    obtain ⟨⟨A, rfl⟩, rfl⟩ := h
    cases A with
    | good => exact T.show_g.serves (Z.ins .good).cls fun f fd F => ok_showsG Z N T.n_list ea tw ao F
    | lone n k => exact T.show_l.serves (Z.ins (.lone n k)).cls fun f fd F => ok_showsL Z N ea cnt F
    | twice a b => exact T.show_t.serves (Z.ins (.twice a b)).cls fun f fd F => ok_showsT Z tw at2 F
    | never a b => exact T.show_n.serves (Z.ins (.never a b)).cls fun f fd F => ok_showsN Z tw at2 F
  have cell := fn_cell (P := P) (w := w) (base := base) T.d__law_cell_at N
  have draw := fn_draw (P := P) (w := w) (base := base) T.d__law_draw
  have val := fn_value T.d__law_value draw
  have sy := fn_says (P := P) (w := w) (base := base) T.d__law_says N
  have pl := fn_plan T.d__law_plan N op ho
  have lo := fn_lone (P := P) (w := w) (base := base) T.d__law_lone N
  have go := fn_good T.d__law_good N lo
  have off := fn_often (P := P) (w := w) (base := base) T.d__law_often N T.n_sum
  exact ok_law4 D N Z T.mkg M (by decide) sh cell draw (fn_plans T.d__law_plans N pl val cell draw) go sy (fn_loneRight T.d__law_lone_right N Z M (by decide) sh lo sy) (fn_twoRight T.d__law_two_right N Z M (by decide) sh off sy)
theorem law_end {P : Program} {w : World} {K : PySem.W.Frag} {h : Heap} {mg : Str → Option Value} {fa : Addr} {cg cl ct cn : Addr} (X : K.In h) (G : h.Ns mainGlobals mg) (hfa : mg "law" = some (.ref fa)) (T : Text K mg ⟨cg, cl, ct, cn⟩)
    {f : Addr} {oc : Value} {od an : Option Addr} {osl : Array (Option Value)} {kV doc pm cdv ct : Value}
    (a : PySem.W.nsIn K mainGlobals "law" = some (some (.ref f))) (l : K.lookup f = some ⟨oc, od, .func (PySem.W.fnOf "law" "law" (defArgs t_law) (defBody t_law) (defScope t_law) .none kV doc pm an cdv ct), osl⟩) (c : PySem.W.codeIn K cdv "law" = true) (k : PySem.W.keepIn K (.ref f) = true) :
    ∃ fd : FuncData, (∀ (s : Shared) (v : Value), BindsTo s fd ⟨[v], []⟩ [("_law_script", v)]) ∧ ∀ base : Heap, K.In base → base.Ns mainGlobals mg → FnOk P w K mg base CX0 22 fa fd ["_law_script"] (spLaw4 K) := by
  have e := hfa.symm.trans (PySem.W.mg_of X G a)
  cases e
  exact ⟨_, fun s v => .of_eq rfl, fun base _ _ => T.law (fun_mk (st := t_law) l c k)⟩
theorem law_walk {l : PySem.W.OpenLaw} {q : Program} {loose : List Str} {XP : (Str → Option Value) → Heap → Prop} {YP : World → Heap → Prop} {d : DefRec} {K : Params → PySem.W.Frag} (hn : l.most = some 63) (hdf : d.params.defaults = [])
    (hY : ∀ (w : World) (h : Heap), YP w h → (K w.params).In h)
    (F : ∀ (w : World) (mg : Str → Option Value) (fa : Addr) (h : Heap), (K w.params).In h → h.Ns mainGlobals mg → mg d.name = some (.ref fa) →
      ∃ fd : FuncData, (∀ (s : Shared) (u : Value), BindsTo s fd ⟨[u], []⟩ [("_law_script", u)]) ∧ ∀ base : Heap, (K w.params).In base → base.Ns mainGlobals mg → FnOk l.prog w (K w.params) mg base CX0 22 fa fd ["_law_script"] (spLaw4 (K w.params))) :
    PySem.W.WalkO q loose XP YP l.row.toRowW d [] (fun f vs => PySem.call f vs) :=
  L2.walk_ofB (n := 63) (k := 22) (x := "_law_script") (CX := fun _ => CX0) (sp := fun w => spLaw4 (K w.params)) hn (by decide) hdf ⟨rfl, by decide, by decide⟩ hY F (fun _ _ a ns hl hb _ hS => ⟨a, ns, rfl, hS, hl, fun n hm => bits_log (hb n hm), fun _ => rfl⟩) fun _ _ _ _ _ z => z
end EM
open PySem PySem.W PyProof.Rows in
set_option maxHeartbeats 0 in
theorem PySem.Challenge.cw_everymeets_k04_answers_by_hand_holds : PySem.Challenge.rw_everymeets_k04_answers_by_hand.Holds := by
  w_on; o_law; k_head; (case hw => w_witness2)
  k_fill
  refine EM.law_walk (l := PySem.Challenge.rw_everymeets_k04_answers_by_hand) rfl rfl (fun w h Y => PySem.W.kIn_of Y) ?F
  case F =>
    intro w mg fa h KX G hmg
    refine' EM.law_end KX G hmg ⟨⟨PySem.W.mg_none_of KX G ?z0, PySem.W.mg_none_of KX G ?z1, PySem.W.mg_none_of KX G ?z2, PySem.W.mg_none_of KX G ?z3, PySem.W.mg_none_of KX G ?z4, PySem.W.mg_none_of KX G ?z5, PySem.W.mg_none_of KX G ?z6, PySem.W.mg_none_of KX G ?z7, PySem.W.mg_none_of KX G ?z8⟩,
      PySem.W.mg_none_of KX G ?y0,
      PySem.W.mg_none_of KX G ?y1,
      EM.def_mk KX G ?a_is_number ?l_is_number ?c_is_number ?k_is_number (fun _ _ _ _ _ _ us hl => match us, hl with | [_], _ => rfl),
      EM.def_mk KX G ?a_is_counted ?l_is_counted ?c_is_counted ?k_is_counted (fun _ _ _ _ _ _ us hl => match us, hl with | [_, _], _ => rfl),
      EM.def_mk KX G ?a_check_teams ?l_check_teams ?c_check_teams ?k_check_teams (fun _ _ _ _ _ _ us hl => match us, hl with | [_], _ => rfl),
      EM.def_mk KX G ?a_check_team ?l_check_team ?c_check_team ?k_check_team (fun _ _ _ _ _ _ us hl => match us, hl with | [_, _], _ => rfl),
      EM.def_mk KX G ?a_check_round ?l_check_round ?c_check_round ?k_check_round (fun _ _ _ _ _ _ us hl => match us, hl with | [_, _], _ => rfl),
      EM.def_mk KX G ?a_pairs_of_each ?l_pairs_of_each ?c_pairs_of_each ?k_pairs_of_each (fun _ _ _ _ _ _ us hl => match us, hl with | [_, _], _ => rfl),
      EM.def_mk KX G ?a_pairs_of_two ?l_pairs_of_two ?c_pairs_of_two ?k_pairs_of_two (fun _ _ _ _ _ _ us hl => match us, hl with | [_, _], _ => rfl),
      EM.def_mk KX G ?a__all_one ?l__all_one ?c__all_one ?k__all_one (fun _ _ _ _ _ _ us hl => match us, hl with | [_], _ => rfl),
      EM.def_mk KX G ?a__are_two ?l__are_two ?c__are_two ?k__are_two (fun _ _ _ _ _ _ us hl => match us, hl with | [_, _, _], _ => rfl),
      EM.def_mk KX G ?a_opponent ?l_opponent ?c_opponent ?k_opponent (fun _ _ _ _ _ _ us hl => match us, hl with | [_, _, _], _ => rfl),
      EM.def_mk KX G ?a_at_home ?l_at_home ?c_at_home ?k_at_home (fun _ _ _ _ _ _ us hl => match us, hl with | [_, _, _], _ => rfl),
      EM.def_mk KX G ?a__check_team_in_round ?l__check_team_in_round ?c__check_team_in_round ?k__check_team_in_round (fun _ _ _ _ _ _ us hl => match us, hl with | [_, _, _], _ => rfl),
      EM.def_mk KX G ?a__law_cell_at ?l__law_cell_at ?c__law_cell_at ?k__law_cell_at (fun _ _ _ _ _ _ us hl => match us, hl with | [_, _], _ => rfl),
      EM.def_mk KX G ?a__law_draw ?l__law_draw ?c__law_draw ?k__law_draw (fun _ _ _ _ _ _ us hl => match us, hl with | [_, _, _], _ => rfl),
      EM.def_mk KX G ?a__law_value ?l__law_value ?c__law_value ?k__law_value (fun _ _ _ _ _ _ us hl => match us, hl with | [_, _, _], _ => rfl),
      EM.def_mk KX G ?a__law_plan ?l__law_plan ?c__law_plan ?k__law_plan (fun _ _ _ _ _ _ us hl => match us, hl with | [_], _ => rfl),
      EM.def_mk KX G ?a__law_often ?l__law_often ?c__law_often ?k__law_often (fun _ _ _ _ _ _ us hl => match us, hl with | [_, _, _], _ => rfl),
      EM.def_mk KX G ?a__law_lone ?l__law_lone ?c__law_lone ?k__law_lone (fun _ _ _ _ _ _ us hl => match us, hl with | [_, _, _], _ => rfl),
      EM.def_mk KX G ?a__law_good ?l__law_good ?c__law_good ?k__law_good (fun _ _ _ _ _ _ us hl => match us, hl with | [_, _], _ => rfl),
      EM.def_mk KX G ?a__law_plans ?l__law_plans ?c__law_plans ?k__law_plans (fun _ _ _ _ _ _ us hl => match us, hl with | [_, _], _ => rfl),
      EM.def_mk KX G ?a__law_says ?l__law_says ?c__law_says ?k__law_says (fun _ _ _ _ _ _ us hl => match us, hl with | [_, _], _ => rfl),
      EM.def_mk KX G ?a__law_lone_right ?l__law_lone_right ?c__law_lone_right ?k__law_lone_right (fun _ _ _ _ _ _ us hl => match us, hl with | [_, _, _, _], _ => rfl),
      EM.def_mk KX G ?a__law_two_right ?l__law_two_right ?c__law_two_right ?k__law_two_right (fun _ _ _ _ _ _ us hl => match us, hl with | [_, _, _, _], _ => rfl),
      PySem.W.mg_of KX G ?mg,
      PySem.W.mg_of KX G ?ml,
      PySem.W.mg_of KX G ?mt,
      PySem.W.mg_of KX G ?mn,
      ?hn,
      ?ht,
      ⟨?pg_g, ?hd_g, ?po_g, ?sa_g, ?ha_g, ?hm_g⟩,
      ⟨?pg_l, ?hd_l, ?po_l, ?sa_l, ?ha_l, ?hm_l⟩,
      ⟨?pg_t, ?hd_t, ?po_t, ?sa_t, ?ha_t, ?hm_t⟩,
      ⟨?pg_n, ?hd_n, ?po_n, ?sa_n, ?ha_n, ?hm_n⟩,
      ⟨?q_gg, ?q_gl, ?q_gt, ?q_gn, ?q_lg, ?q_ll, ?q_lt, ?q_ln, ?q_tg, ?q_tl, ?q_tt, ?q_tn, ?q_ng, ?q_nl, ?q_nt, ?q_nn⟩,
      ⟨?mk_g, ?in_g, ?kp_g⟩,
      ?nol0,
      ?nol1,
      EM.meth_mk ?a_il ?i_il ?l_il ?c_il ?k_il (fun _ _ _ _ _ _ us hl => match us, hl with | [_, _, _], _ => rfl),
      ?mk_l,
      ?kp_l,
      ?not0,
      ?not1,
      EM.meth_mk ?a_it ?i_it ?l_it ?c_it ?k_it (fun _ _ _ _ _ _ us hl => match us, hl with | [_, _, _], _ => rfl),
      ?mk_t,
      ?kp_t,
      ?non0,
      ?non1,
      EM.meth_mk ?a_in ?i_in ?l_in ?c_in ?k_in (fun _ _ _ _ _ _ us hl => match us, hl with | [_, _, _], _ => rfl),
      ?mk_n,
      ?kp_n,
      EM.meth_mk ?a_sg ?i_sg ?l_sg ?c_sg ?k_sg (fun _ _ _ _ _ _ us hl => match us, hl with | [_, _, _], _ => rfl),
      EM.meth_mk ?a_sl ?i_sl ?l_sl ?c_sl ?k_sl (fun _ _ _ _ _ _ us hl => match us, hl with | [_, _, _], _ => rfl),
      EM.meth_mk ?a_st ?i_st ?l_st ?c_st ?k_st (fun _ _ _ _ _ _ us hl => match us, hl with | [_, _, _], _ => rfl),
      EM.meth_mk ?a_sn ?i_sn ?l_sn ?c_sn ?k_sn (fun _ _ _ _ _ _ us hl => match us, hl with | [_, _, _], _ => rfl)⟩ ?a ?l ?c ?k
    (case z0 => k_is)
    (case z1 => k_is)
    (case z2 => k_is)
    (case z3 => k_is)
    (case z4 => k_is)
    (case z5 => k_is)
    (case z6 => k_is)
    (case z7 => k_is)
    (case z8 => k_is)
    (case y0 => k_is)
    (case y1 => k_is)
    (case a_is_number => k_is)
    (case l_is_number => k_is)
    (case c_is_number => k_is)
    (case k_is_number => k_is)
    (case a_is_counted => k_is)
    (case l_is_counted => k_is)
    (case c_is_counted => k_is)
    (case k_is_counted => k_is)
    (case a_check_teams => k_is)
    (case l_check_teams => k_is)
    (case c_check_teams => k_is)
    (case k_check_teams => k_is)
    (case a_check_team => k_is)
    (case l_check_team => k_is)
    (case c_check_team => k_is)
    (case k_check_team => k_is)
    (case a_check_round => k_is)
    (case l_check_round => k_is)
    (case c_check_round => k_is)
    (case k_check_round => k_is)
    (case a_pairs_of_each => k_is)
    (case l_pairs_of_each => k_is)
    (case c_pairs_of_each => k_is)
    (case k_pairs_of_each => k_is)
    (case a_pairs_of_two => k_is)
    (case l_pairs_of_two => k_is)
    (case c_pairs_of_two => k_is)
    (case k_pairs_of_two => k_is)
    (case a__all_one => k_is)
    (case l__all_one => k_is)
    (case c__all_one => k_is)
    (case k__all_one => k_is)
    (case a__are_two => k_is)
    (case l__are_two => k_is)
    (case c__are_two => k_is)
    (case k__are_two => k_is)
    (case a_opponent => k_is)
    (case l_opponent => k_is)
    (case c_opponent => k_is)
    (case k_opponent => k_is)
    (case a_at_home => k_is)
    (case l_at_home => k_is)
    (case c_at_home => k_is)
    (case k_at_home => k_is)
    (case a__check_team_in_round => k_is)
    (case l__check_team_in_round => k_is)
    (case c__check_team_in_round => k_is)
    (case k__check_team_in_round => k_is)
    (case a__law_cell_at => k_is)
    (case l__law_cell_at => k_is)
    (case c__law_cell_at => k_is)
    (case k__law_cell_at => k_is)
    (case a__law_draw => k_is)
    (case l__law_draw => k_is)
    (case c__law_draw => k_is)
    (case k__law_draw => k_is)
    (case a__law_value => k_is)
    (case l__law_value => k_is)
    (case c__law_value => k_is)
    (case k__law_value => k_is)
    (case a__law_plan => k_is)
    (case l__law_plan => k_is)
    (case c__law_plan => k_is)
    (case k__law_plan => k_is)
    (case a__law_often => k_is)
    (case l__law_often => k_is)
    (case c__law_often => k_is)
    (case k__law_often => k_is)
    (case a__law_lone => k_is)
    (case l__law_lone => k_is)
    (case c__law_lone => k_is)
    (case k__law_lone => k_is)
    (case a__law_good => k_is)
    (case l__law_good => k_is)
    (case c__law_good => k_is)
    (case k__law_good => k_is)
    (case a__law_plans => k_is)
    (case l__law_plans => k_is)
    (case c__law_plans => k_is)
    (case k__law_plans => k_is)
    (case a__law_says => k_is)
    (case l__law_says => k_is)
    (case c__law_says => k_is)
    (case k__law_says => k_is)
    (case a__law_lone_right => k_is)
    (case l__law_lone_right => k_is)
    (case c__law_lone_right => k_is)
    (case k__law_lone_right => k_is)
    (case a__law_two_right => k_is)
    (case l__law_two_right => k_is)
    (case c__law_two_right => k_is)
    (case k__law_two_right => k_is)
    (case mg => k_is)
    (case ml => k_is)
    (case mt => k_is)
    (case mn => k_is)
    (case hn => k_is)
    (case ht => k_is)
    (case pg_g => k_is)
    (case hd_g => k_is)
    (case po_g => k_is)
    (case sa_g => k_is)
    (case ha_g => k_is)
    (case hm_g => k_is)
    (case pg_l => k_is)
    (case hd_l => k_is)
    (case po_l => k_is)
    (case sa_l => k_is)
    (case ha_l => k_is)
    (case hm_l => k_is)
    (case pg_t => k_is)
    (case hd_t => k_is)
    (case po_t => k_is)
    (case sa_t => k_is)
    (case ha_t => k_is)
    (case hm_t => k_is)
    (case pg_n => k_is)
    (case hd_n => k_is)
    (case po_n => k_is)
    (case sa_n => k_is)
    (case ha_n => k_is)
    (case hm_n => k_is)
    (case q_gg => kit_is)
    (case q_gl => kit_is)
    (case q_gt => kit_is)
    (case q_gn => kit_is)
    (case q_lg => kit_is)
    (case q_ll => kit_is)
    (case q_lt => kit_is)
    (case q_ln => kit_is)
    (case q_tg => kit_is)
    (case q_tl => kit_is)
    (case q_tt => kit_is)
    (case q_tn => kit_is)
    (case q_ng => kit_is)
    (case q_nl => kit_is)
    (case q_nt => kit_is)
    (case q_nn => kit_is)
    (case mk_g => k_is)
    (case in_g => k_is)
    (case kp_g => k_is)
    (case nol0 => k_is)
    (case nol1 => k_is)
    (case a_il => k_is)
    (case i_il => k_is)
    (case l_il => k_is)
    (case c_il => k_is)
    (case k_il => k_is)
    (case mk_l => k_is)
    (case kp_l => k_is)
    (case not0 => k_is)
    (case not1 => k_is)
    (case a_it => k_is)
    (case i_it => k_is)
    (case l_it => k_is)
    (case c_it => k_is)
    (case k_it => k_is)
    (case mk_t => k_is)
    (case kp_t => k_is)
    (case non0 => k_is)
    (case non1 => k_is)
    (case a_in => k_is)
    (case i_in => k_is)
    (case l_in => k_is)
    (case c_in => k_is)
    (case k_in => k_is)
    (case mk_n => k_is)
    (case kp_n => k_is)
    (case a_sg => k_is)
    (case i_sg => k_is)
    (case l_sg => k_is)
    (case c_sg => k_is)
    (case k_sg => k_is)
    (case a_sl => k_is)
    (case i_sl => k_is)
    (case l_sl => k_is)
    (case c_sl => k_is)
    (case k_sl => k_is)
    (case a_st => k_is)
    (case i_st => k_is)
    (case l_st => k_is)
    (case c_st => k_is)
    (case k_st => k_is)
    (case a_sn => k_is)
    (case i_sn => k_is)
    (case l_sn => k_is)
    (case c_sn => k_is)
    (case k_sn => k_is)
    (case a => k_is)
    (case l => k_is)
    (case c => k_is)
    (case k => k_is)
