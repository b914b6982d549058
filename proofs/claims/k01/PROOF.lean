import PyProof.Rows.All
import Wide.All
import OpenK.AllK
import Wide.FinOn
import HandS.Base
import HandS.Call
import HandS.List
import HandS.Comp
import HandS.Ends
import HandS.Dict
import HandS.Iter
import HandS.Words
import HandS.WordsList
import HandS.Wide
import HandS.EndBits
import HandS.IsInst
import HandS.TupLen
import HandS.DictTup
import HandS.Sort
import KE.KDictWalk
import PySem.Challenge.RW_everymeets_k01_whole_plan
set_option Elab.async false
set_option linter.all false
set_option maxRecDepth 100000
set_option maxHeartbeats 4000000
namespace EM
/-! the told plan as functions -/
def opp (t a r : Int) : Int := if a = t - 1 then r else if a = r then t - 1 else (2 * r - a) % (t - 1)
def home (t a r : Int) : Bool := if a = t - 1 then decide (r % 2 = 0) else if a = r then decide (r % 2 = 1) else decide ((a - r) % (t - 1) % 2 = 1)
def rnd (t a b : Int) : Int := if a = t - 1 then b else if b = t - 1 then a else ((a + b) * (t / 2)) % (t - 1)
structure TOk (t : Int) : Prop where
  two : 2 ≤ t
  even : t % 2 = 0
theorem emod_of {y m a k : Int} (h : y = a + m * k) (h0 : 0 ≤ a) (h1 : a < m) : y % m = a := by
  rw [h, Int.add_mul_emod_self_left]
  exact Int.emod_eq_of_lt h0 h1
theorem emod3 {y m : Int} (hm : 0 < m) (h0 : -m < y) (h1 : y < 2 * m) : (y % m = y ∧ 0 ≤ y ∧ y < m) ∨ (y % m = y - m ∧ m ≤ y) ∨ (y % m = y + m ∧ y < 0) := by
  by_cases a : y < 0
  · exact .inr (.inr ⟨emod_of (k := -1) (by omega) (by omega) (by omega), a⟩)
  · by_cases b : y < m
    · exact .inl ⟨emod_of (k := 0) (by omega) (by omega) b, by omega, b⟩
    · exact .inr (.inl ⟨emod_of (k := 1) (by omega) (by omega) (by omega), by omega⟩)
section
variable {t a b r : Int}
theorem opp_lt (T : TOk t) (a0 : 0 ≤ a) (a1 : a < t) (r0 : 0 ≤ r) (r1 : r < t - 1) : 0 ≤ opp t a r ∧ opp t a r < t := by
  have := T.two
  unfold opp
  split
  · omega
  · split
    · omega
    · have h1 := Int.emod_nonneg (2 * r - a) (show t - 1 ≠ 0 by omega)
      have h2 := Int.emod_lt_of_pos (2 * r - a) (show 0 < t - 1 by omega)
      omega
theorem opp_ne (T : TOk t) (a0 : 0 ≤ a) (a1 : a < t) (r0 : 0 ≤ r) (r1 : r < t - 1) : opp t a r ≠ a := by
  have := T.two
  have := T.even
  unfold opp
  split
  · omega
  · split
    · omega
    · have h := emod3 (y := 2 * r - a) (m := t - 1) (by omega) (by omega) (by omega)
      omega
theorem opp_opp (T : TOk t) (a0 : 0 ≤ a) (a1 : a < t) (r0 : 0 ≤ r) (r1 : r < t - 1) : opp t (opp t a r) r = a := by
  have := T.two
  have := T.even
  by_cases e1 : a = t - 1
  · have : opp t a r = r := by unfold opp; rw [if_pos e1]
    rw [this]
    unfold opp
    rw [if_neg (by omega), if_pos rfl, e1]
  · by_cases e2 : a = r
    · have : opp t a r = t - 1 := by unfold opp; rw [if_neg e1, if_pos e2]
      rw [this]
      unfold opp
      rw [if_pos rfl, e2]
    · have e : opp t a r = (2 * r - a) % (t - 1) := by unfold opp; rw [if_neg e1, if_neg e2]
      have h := emod3 (y := 2 * r - a) (m := t - 1) (by omega) (by omega) (by omega)
      rw [← e] at h
      generalize opp t a r = x at h
      unfold opp
      rw [if_neg (by omega), if_neg (by omega)]
      rcases h with h | h | h
      · exact emod_of (k := 0) (by omega) (by omega) (by omega)
      · exact emod_of (k := 1) (by omega) (by omega) (by omega)
      · exact emod_of (k := -1) (by omega) (by omega) (by omega)
/-- twice the half of the teams is one and a whole turn -/
theorem half_turn {h m s r q : Int} (e : 2 * h = m + 1) (hs : s = 2 * r + m * q) : s * h = r + m * (r + q * h) := by
  have h1 : 2 * r * h = r * (m + 1) := by rw [← e, ← Int.mul_assoc, Int.mul_comm 2 r]
  rw [hs, Int.add_mul, h1, Int.mul_add, Int.mul_add, Int.mul_one, Int.mul_assoc, Int.mul_comm m r]
  omega
theorem half_turn2 {h m s x : Int} (e : 2 * h = m + 1) (hx : x = s * h % m) : ∃ j, 2 * x = s + m * j := by
  have d : s * h % m + m * (s * h / m) = s * h := Int.emod_add_mul_ediv (s * h) m
  refine ⟨s - 2 * (s * h / m), ?_⟩
  have h1 : 2 * (s * h) = s * (m + 1) := by rw [← e, ← Int.mul_assoc, ← Int.mul_assoc, Int.mul_comm 2 s]
  rw [Int.mul_add, Int.mul_one] at h1
  rw [← hx] at d
  rw [Int.mul_sub, ← Int.mul_assoc, Int.mul_comm m 2, Int.mul_assoc, Int.mul_comm m s]
  generalize m * (s * h / m) = y at *
  generalize s * m = z at *
  omega
theorem rnd_opp (T : TOk t) (a0 : 0 ≤ a) (a1 : a < t) (r0 : 0 ≤ r) (r1 : r < t - 1) : rnd t a (opp t a r) = r ∧ rnd t (opp t a r) a = r := by
  have := T.two
  have := T.even
  by_cases e1 : a = t - 1
  · have e : opp t a r = r := by unfold opp; rw [if_pos e1]
    rw [e]
    unfold rnd
    rw [if_pos e1, if_neg (show ¬ r = t - 1 by omega), if_pos e1]
    exact ⟨rfl, rfl⟩
  · by_cases e2 : a = r
    · have e : opp t a r = t - 1 := by unfold opp; rw [if_neg e1, if_pos e2]
      rw [e]
      unfold rnd
      rw [if_neg e1, if_pos rfl, if_pos rfl]
      exact ⟨e2, e2⟩
    · have e : opp t a r = (2 * r - a) % (t - 1) := by unfold opp; rw [if_neg e1, if_neg e2]
      have h := emod3 (y := 2 * r - a) (m := t - 1) (by omega) (by omega) (by omega)
      rw [← e] at h
      have h2 : 2 * (t / 2) = (t - 1) + 1 := by omega
      generalize opp t a r = x at h
      unfold rnd
      rw [if_neg e1, if_neg (show ¬ x = t - 1 by omega), if_neg (show ¬ x = t - 1 by omega), if_neg e1, Int.add_comm x a]
      have k : ∃ q : Int, a + x = 2 * r + (t - 1) * q := by
        rcases h with h | h | h
        · exact ⟨0, by omega⟩
        · exact ⟨-1, by omega⟩
        · exact ⟨1, by omega⟩
      obtain ⟨q, hq⟩ := k
      have := emod_of (half_turn h2 hq) r0 r1
      exact ⟨this, this⟩
theorem home_opp (T : TOk t) (a0 : 0 ≤ a) (a1 : a < t) (r0 : 0 ≤ r) (r1 : r < t - 1) : home t (opp t a r) r = !home t a r := by
  have := T.two
  have := T.even
  have neg : ∀ {p q : Prop} [Decidable p] [Decidable q], (p ↔ ¬ q) → decide p = !decide q := fun {p q} _ _ h => by
    rw [decide_eq_decide.mpr h, decide_not]
  by_cases e1 : a = t - 1
  · have e : opp t a r = r := by unfold opp; rw [if_pos e1]
    rw [e]
    unfold home
    rw [if_neg (show ¬ r = t - 1 by omega), if_pos rfl, if_pos e1]
    exact neg (by omega)
  · by_cases e2 : a = r
    · have e : opp t a r = t - 1 := by unfold opp; rw [if_neg e1, if_pos e2]
      rw [e]
      unfold home
      rw [if_pos rfl, if_neg e1, if_pos e2]
      exact neg (by omega)
    · have e : opp t a r = (2 * r - a) % (t - 1) := by unfold opp; rw [if_neg e1, if_neg e2]
      have h := emod3 (y := 2 * r - a) (m := t - 1) (by omega) (by omega) (by omega)
      rw [← e] at h
      generalize opp t a r = x at h
      unfold home
      rw [if_neg (show ¬ x = t - 1 by omega), if_neg (show ¬ x = r by omega), if_neg e1, if_neg e2]
      have h3 := emod3 (y := a - r) (m := t - 1) (by omega) (by omega) (by omega)
      have h4 := emod3 (y := x - r) (m := t - 1) (by omega) (by omega) (by omega)
      refine neg ?_
      generalize (x - r) % (t - 1) = u at *
      generalize (a - r) % (t - 1) = v at *
      omega
theorem rnd_ok (T : TOk t) (a0 : 0 ≤ a) (a1 : a < t) (b0 : 0 ≤ b) (b1 : b < t) (n : a ≠ b) : 0 ≤ rnd t a b ∧ rnd t a b < t - 1 ∧ opp t a (rnd t a b) = b ∧ opp t b (rnd t a b) = a := by
  have := T.two
  have := T.even
  by_cases e1 : a = t - 1
  · have e : rnd t a b = b := by unfold rnd; rw [if_pos e1]
    rw [e]
    unfold opp
    rw [if_pos e1, if_neg (show ¬ b = t - 1 by omega), if_pos rfl]
    omega
  · by_cases e2 : b = t - 1
    · have e : rnd t a b = a := by unfold rnd; rw [if_neg e1, if_pos e2]
      rw [e]
      unfold opp
      rw [if_neg e1, if_pos rfl, if_pos e2]
      omega
    · have e : rnd t a b = (a + b) * (t / 2) % (t - 1) := by unfold rnd; rw [if_neg e1, if_neg e2]
      obtain ⟨j, hj⟩ := half_turn2 (h := t / 2) (m := t - 1) (s := a + b) (by omega) e
      have x0 : 0 ≤ rnd t a b := by rw [e]; exact Int.emod_nonneg _ (by omega)
      have x1 : rnd t a b < t - 1 := by rw [e]; exact Int.emod_lt_of_pos _ (by omega)
      generalize rnd t a b = x at *
      have j1 : j = 0 ∨ j = 1 ∨ j = -1 := by
        have : -2 < j := by
          apply Int.not_le.mp
          intro z
          have := Int.mul_le_mul_of_nonneg_left (c := t - 1) z (by omega)
          omega
        have : j < 2 := by
          apply Int.not_le.mp
          intro z
          have := Int.mul_le_mul_of_nonneg_left (c := t - 1) z (by omega)
          omega
        omega
      refine ⟨x0, x1, ?_, ?_⟩
      · unfold opp
        rw [if_neg e1]
        rcases j1 with rfl | rfl | rfl
        · rw [if_neg (by omega)]; exact emod_of (k := 0) (by omega) b0 (by omega)
        · rw [if_neg (by omega)]; exact emod_of (k := 1) (by omega) b0 (by omega)
        · rw [if_neg (by omega)]; exact emod_of (k := -1) (by omega) b0 (by omega)
      · unfold opp
        rw [if_neg e2]
        rcases j1 with rfl | rfl | rfl
        · rw [if_neg (by omega)]; exact emod_of (k := 0) (by omega) a0 (by omega)
        · rw [if_neg (by omega)]; exact emod_of (k := 1) (by omega) a0 (by omega)
        · rw [if_neg (by omega)]; exact emod_of (k := -1) (by omega) a0 (by omega)
end
end EM
namespace EM
open PySem PySem.Spec PyProof.Rows L2
/-! a def of the text by its name, its promise, its call -/
structure DefAt (K : PySem.W.Frag) (mg : Str → Option Value) (x : Str) (st : Stmt) (ps : List Str) : Prop where
  ex : ∃ (f : Addr) (fd : FuncData), Fun K x x st f fd ∧ Binds K fd ps [] ∧ mg x = some (.ref f)
structure Fn (P : Program) (w : World) (K : PySem.W.Frag) (mg : Str → Option Value) (base : Heap) (x : Str) (ps : List Str) (k : Nat) (sp : Sp) : Prop where
  ex : ∃ (f : Addr) (fd : FuncData), FnOk P w K mg base CX0 k f fd ps sp ∧ mg x = some (.ref f) ∧ PySem.W.keepIn K (.ref f) = true ∧ Binds K fd ps []
theorem DefAt.fn {P : Program} {w : World} {K : PySem.W.Frag} {mg : Str → Option Value} {base : Heap} {x : Str} {st : Stmt} {ps N : List Str} {k : Nat} {sp : Sp} (d : DefAt K mg x st ps) (S : FnScope N ps (defScope st)) (len : ∀ vs H Q E, sp vs H Q E → vs.length = ps.length)
    (body : ∀ (f : Addr) (cdv : Value) (A : Around) (outer : List Env) (s : Shared) (H : Hp) (vs : List V) (Q : VK) (E : XK), Room k (A.deeper (envOfC x (defScope st) s.heap.objs.size f cdv)) → sp vs H Q E →
      ∃ t, PSs (cxOf CX0 P w K mg base N x (defScope st) f cdv A outer s H E).nox (defBody st) t ∧ t { nx := fun _ H' => Q .non H', rt := Q } (start N vs) H) : Fn P w K mg base x ps (k + 1) sp := by
  obtain ⟨f, fd, F, b, m⟩ := d.ex
  exact ⟨f, fd, F.ok S len fun cdv A outer s H vs Q E hr h => body f cdv A outer s H vs Q E hr h, m, F.kp, b⟩
section
variable {X : Cx} {x : Str} {ps : List Str} {k : Nat} {sp : Sp} {e : Expr} {es : List Expr} {t : TA} {p pos : Pos}
theorem pe_f (F : Fn X.prog X.w X.K X.mg X.base x ps k sp) {j : Nat} (hr : Room j X.A) (hj : k ≤ j) (hg : Gl X x) (ha : PA X (e :: es) t) (hdb : (x == ("__debug__" : Str)) = false := by decide)
    (he : starEach (e :: es) X.env = (false, eval e X.env) :: starEach es X.env := by rfl) (hpl : (backTo pos (starEach es X.env)).any (·.1) = false := by rfl) :
    PE X (.Call (.Name x p) (e :: es) [] pos) (tCall sp [] E0 t) := by
  obtain ⟨f, fd, G, m, kp, b⟩ := F.ex
  exact pe_call G (hr.mono hj) hg m kp b .nil pass0 ha hdb he hpl
end
theorem same_upd {H : Hp} {p : Addr} {o : HO} (h : H p = none) : Same H (upd H p o) := fun b u e => by
  rw [upd_ne (ne_of_none e h)]
  exact e
theorem itT {c A B : Prop} [Decidable c] (h : c) (a : A) : if decide c = true then A else B := by
  rw [decide_eq_true h, if_pos rfl]
  exact a
theorem itF {c A B : Prop} [Decidable c] (h : ¬ c) (b : B) : if decide c = true then A else B := by
  rw [decide_eq_false h, if_neg Bool.false_ne_true]
  exact b
theorem itNb {b : Bool} {A B : Prop} (h : b = true) (x : B) : if (!b) = true then A else B := by
  subst h
  exact x
/-! numbers of any size in * -/
def CMulH (i j : Int) : Prop := i.natAbs.log2 + j.natAbs.log2 < 100000000
theorem bits_le (z : Int) : Builtin.Int.intBits z ≤ z.natAbs.log2 + 1 := by
  unfold Builtin.Int.intBits
  by_cases h : z.natAbs = 0 <;> simp_all <;> omega
theorem CMulH.fits {i j : Int} (h : CMulH i j) : IntMulOk i j := by
  unfold IntMulOk
  intro hz
  rw [Bool.and_eq_true] at hz
  have big := hz.2
  unfold Builtin.Int.intTooBig at big
  have big := of_decide_eq_true big
  have line : bitsLine = 134217728 := by decide
  have hi := bits_le i
  have hj := bits_le j
  unfold CMulH at h
  omega
theorem op_mulH {X : Cx} : OpR X (binaryOp .Mult) (rI CMulH fun i j => .int (i * j)) := opI fun _ _ _ _ _ _ _ hc q => mul_int q (CMulH.fits hc)
/-- what the walk leans on of the names that the top leaves alone -/
structure Names (mg : Str → Option Value) : Prop where
  isinst : mg "isinstance" = none
  int : mg "int" = none
  bool : mg "bool" = none
  range : mg "range" = none
  len : mg "len" = none
  all : mg "all" = none
  any : mg "any" = none
  min : mg "min" = none
  max : mg "max" = none
end EM
namespace EM
open PySem PySem.Spec PyProof.Rows L2
def topS (i : Nat) : Stmt := PySem.Challenge.pw_everymeets_k01_whole_plan.main.body.getD i (.Pass ⟨0, 0, 0, 0⟩)
abbrev tIsNumber : Stmt := topS 7
abbrev tCounted : Stmt := topS 8
abbrev tChkTeams : Stmt := topS 9
abbrev tChkTeam : Stmt := topS 10
abbrev tChkRound : Stmt := topS 11
abbrev tOpponent : Stmt := topS 13
abbrev tAtHome : Stmt := topS 14
abbrev tRoundOf : Stmt := topS 15
abbrev tChkTR : Stmt := topS 16
theorem scIsNumber : FnScope ["value"] ["value"] (defScope tIsNumber) := ⟨rfl, rfl, rfl, by decide +kernel, rfl, by decide +kernel, by decide +kernel⟩
theorem scChkTeams : FnScope ["teams"] ["teams"] (defScope tChkTeams) := ⟨rfl, rfl, rfl, by decide +kernel, rfl, by decide +kernel, by decide +kernel⟩
theorem scChkTeam : FnScope ["teams", "team"] ["teams", "team"] (defScope tChkTeam) := ⟨rfl, rfl, rfl, by decide +kernel, rfl, by decide +kernel, by decide +kernel⟩
theorem scChkRound : FnScope ["teams", "number"] ["teams", "number"] (defScope tChkRound) := ⟨rfl, rfl, rfl, by decide +kernel, rfl, by decide +kernel, by decide +kernel⟩
theorem scChkTR : FnScope ["teams", "team", "number"] ["teams", "team", "number"] (defScope tChkTR) := ⟨rfl, rfl, rfl, by decide +kernel, rfl, by decide +kernel, by decide +kernel⟩
theorem scOpponent : FnScope ["teams", "team", "number", "last"] ["teams", "team", "number"] (defScope tOpponent) := ⟨rfl, rfl, rfl, by decide +kernel, rfl, by decide +kernel, by decide +kernel⟩
theorem scAtHome : FnScope ["teams", "team", "number", "last"] ["teams", "team", "number"] (defScope tAtHome) := ⟨rfl, rfl, rfl, by decide +kernel, rfl, by decide +kernel, by decide +kernel⟩
theorem scRoundOf : FnScope ["teams", "one", "other", "last"] ["teams", "one", "other"] (defScope tRoundOf) := ⟨rfl, rfl, rfl, by decide +kernel, rfl, by decide +kernel, by decide +kernel⟩
section
variable {P : Program} {w : World} {K : PySem.W.Frag} {mg : Str → Option Value} {base : Heap}
/-! ### is_number -/
def spWhole : Sp := fun vs H Q _ => ∃ n : Int, vs = [.int n] ∧ Q (.bl true) H
theorem fn_isNumber (d : DefAt K mg "is_number" tIsNumber ["value"]) (T : Names mg) : Fn P w K mg base "is_number" ["value"] 1 spWhole := by
  refine d.fn scIsNumber (fun vs H Q E h => ?_) (fun f cdv A outer s H vs Q E hr h => ?_)
  · obtain ⟨n, rfl, _⟩ := h
    rfl
  · obtain ⟨n, rfl, q⟩ := h
    refine ⟨_, pss_one (ps_ret (pe_and (pe_callB call_isi (by rfl) T.isinst boot_isinstance (pa_cons (pv 0) (pa_cons (pe_bltn (v := .ty "int") (by rfl) T.int boot_int rfl) pa_nil)))
      (pe_one (pe_not (pe_callB call_isi (by rfl) T.isinst boot_isinstance (pa_cons (pv 0) (pa_cons (pe_bltn (v := .ty "bool") (by rfl) T.bool boot_bool rfl) pa_nil))))))), ?_⟩
    refine ⟨.int n, rfl, .int n, .ty "int", _, _, true, rfl, .ty "int", .base (.int n), kit_ty (by decide +kernel), true, rfl, iteT ?_⟩
    exact ⟨.int n, rfl, .int n, .ty "bool", _, _, false, rfl, .ty "bool", .base (.int n), kit_ty (by decide +kernel), false, rfl, q⟩
/-! ### check_teams, check_team, check_round -/
def spTeams : Sp := fun vs H Q _ => ∃ t : Int, vs = [.int t] ∧ TOk t ∧ Q .non H
theorem fn_chkTeams (d : DefAt K mg "check_teams" tChkTeams ["teams"]) (F : Fn P w K mg base "is_number" ["value"] 1 spWhole) : Fn P w K mg base "check_teams" ["teams"] 2 spTeams := by
  refine d.fn scChkTeams (fun vs H Q E h => ?_) (fun f cdv A outer s H vs Q E hr h => ?_)
  · obtain ⟨n, rfl, _⟩ := h
    rfl
  · obtain ⟨t, rfl, T, q⟩ := h
    refine ⟨_, pss_one (ps_if (PW.pt (pw_or (pt_not (pt_val (pe_f F hr (by decide) (by rfl) (pa_cons (pv 0) pa_nil))))
      (pw_or (pt_cmpR op_lt (pv 0) pe_int (nomark _)) (pw_or1 (pt_cmpR op_ne (pe_op op_mod (pv 0) pe_int) pe_int (nomark _))))))
      (pss_one ps_never) pss_nil), ?_⟩
    have := T.two
    refine ⟨.int t, rfl, t, rfl, true, rfl, iteF ⟨.int t, rfl, t, 2, rfl, rfl, _, rfl, itF (by omega) ?_⟩⟩
    exact ⟨.int t, rfl, t, 2, rfl, rfl, (by show (0 : Int) < 2; decide), rfl, _, rfl, iteNS (c := V.int (t % 2) = V.int 0) (by rw [T.even]) q⟩
/-! ### is_counted -/
theorem scCounted : FnScope ["many", "value"] ["many", "value"] (defScope tCounted) := ⟨rfl, rfl, rfl, by decide +kernel, rfl, by decide +kernel, by decide +kernel⟩
def spCnt : Sp := fun vs H Q _ => ∃ n a : Int, vs = [.int n, .int a] ∧ Q (.bl (decide (0 ≤ a ∧ a < n))) H
theorem fn_counted (d : DefAt K mg "is_counted" tCounted ["many", "value"]) (F : Fn P w K mg base "is_number" ["value"] 1 spWhole) : Fn P w K mg base "is_counted" ["many", "value"] 2 spCnt := by
  refine d.fn scCounted (fun vs H Q E h => ?_) (fun f cdv A outer s H vs Q E hr h => ?_)
  · obtain ⟨n, a, rfl, _⟩ := h
    rfl
  · obtain ⟨n, a, rfl, q⟩ := h
    refine ⟨_, pss_one (ps_ret (pe_and (pe_f F hr (by decide) (by rfl) (pa_cons (pv 1) pa_nil)) (pe_one (pe_chain op_le op_lt pe_int (pv 1) (pv 0))))), ?_⟩
    refine ⟨.int a, rfl, a, rfl, true, rfl, iteT ⟨.int a, rfl, 0, a, rfl, rfl, _, rfl, ite2 (fun z => ?_) (fun z => ?_)⟩⟩
    · have z : 0 ≤ a := of_decide_eq_true z
      refine ⟨.int n, rfl, a, n, rfl, rfl, ?_⟩
      have e : decide (0 ≤ a ∧ a < n) = decide (a < n) := decide_eq_decide.mpr ⟨fun h => h.2, fun h => ⟨z, h⟩⟩
      rw [e] at q
      exact q
    · have z : ¬ 0 ≤ a := fun y => z (decide_eq_true y)
      rw [decide_eq_false fun y => z y.1] at q
      exact q
def spTeam : Sp := fun vs H Q _ => ∃ t a : Int, vs = [.int t, .int a] ∧ 0 ≤ a ∧ a < t ∧ Q .non H
theorem fn_chkTeam (d : DefAt K mg "check_team" tChkTeam ["teams", "team"]) (F : Fn P w K mg base "is_counted" ["many", "value"] 2 spCnt) : Fn P w K mg base "check_team" ["teams", "team"] 3 spTeam := by
  refine d.fn scChkTeam (fun vs H Q E h => ?_) (fun f cdv A outer s H vs Q E hr h => ?_)
  · obtain ⟨t, a, rfl, _⟩ := h
    rfl
  · obtain ⟨t, a, rfl, a0, a1, q⟩ := h
    refine ⟨_, pss_one (ps_if (pt_not (pt_val (pe_f F hr (by decide) (by rfl) (pa_cons (pv 0) (pa_cons (pv 1) pa_nil))))) (pss_one ps_never) pss_nil), ?_⟩
    refine ⟨.int t, rfl, .int a, rfl, t, a, rfl, _, rfl, ?_⟩
    rw [decide_eq_true (⟨a0, a1⟩ : 0 ≤ a ∧ a < t)]
    exact iteF q
def spRound : Sp := fun vs H Q _ => ∃ t r : Int, vs = [.int t, .int r] ∧ 0 ≤ r ∧ r < t - 1 ∧ Q .non H
theorem fn_chkRound (d : DefAt K mg "check_round" tChkRound ["teams", "number"]) (F : Fn P w K mg base "is_counted" ["many", "value"] 2 spCnt) : Fn P w K mg base "check_round" ["teams", "number"] 3 spRound := by
  refine d.fn scChkRound (fun vs H Q E h => ?_) (fun f cdv A outer s H vs Q E hr h => ?_)
  · obtain ⟨t, a, rfl, _⟩ := h
    rfl
  · obtain ⟨t, a, rfl, a0, a1, q⟩ := h
    refine ⟨_, pss_one (ps_if (pt_not (pt_val (pe_f F hr (by decide) (by rfl) (pa_cons (pe_op op_sub (pv 0) pe_int) (pa_cons (pv 1) pa_nil))))) (pss_one ps_never) pss_nil), ?_⟩
    refine ⟨.int t, rfl, t, 1, rfl, rfl, .int a, rfl, t - 1, a, rfl, _, rfl, ?_⟩
    rw [decide_eq_true (⟨a0, a1⟩ : 0 ≤ a ∧ a < t - 1)]
    exact iteF q
def spTR : Sp := fun vs H Q _ => ∃ t a r : Int, vs = [.int t, .int a, .int r] ∧ TOk t ∧ 0 ≤ a ∧ a < t ∧ 0 ≤ r ∧ r < t - 1 ∧ Q .non H
theorem fn_chkTR (d : DefAt K mg "_check_team_in_round" tChkTR ["teams", "team", "number"]) (F1 : Fn P w K mg base "check_teams" ["teams"] 2 spTeams) (F2 : Fn P w K mg base "check_team" ["teams", "team"] 3 spTeam) (F3 : Fn P w K mg base "check_round" ["teams", "number"] 3 spRound) : Fn P w K mg base "_check_team_in_round" ["teams", "team", "number"] 4 spTR := by
  refine d.fn scChkTR (fun vs H Q E h => ?_) (fun f cdv A outer s H vs Q E hr h => ?_)
  · obtain ⟨t, a, r, rfl, _⟩ := h
    rfl
  · obtain ⟨t, a, r, rfl, T, a0, a1, r0, r1, q⟩ := h
    refine ⟨_, pss_cons (ps_expr (pe_f F1 hr (by decide) (by rfl) (pa_cons (pv 0) pa_nil))) (pss_cons (ps_expr (pe_f F2 hr (by decide) (by rfl) (pa_cons (pv 0) (pa_cons (pv 1) pa_nil))))
      (pss_one (ps_expr (pe_f F3 hr (by decide) (by rfl) (pa_cons (pv 0) (pa_cons (pv 2) pa_nil)))))), ?_⟩
    exact ⟨.int t, rfl, t, rfl, T, .int t, rfl, .int a, rfl, t, a, rfl, a0, a1, .int t, rfl, .int r, rfl, t, r, rfl, r0, r1, q⟩
/-! ### opponent, at_home, round_of -/
def spOpp : Sp := fun vs H Q _ => ∃ t a r : Int, vs = [.int t, .int a, .int r] ∧ TOk t ∧ 0 ≤ a ∧ a < t ∧ 0 ≤ r ∧ r < t - 1 ∧ Q (.int (opp t a r)) H
theorem fn_opponent (d : DefAt K mg "opponent" tOpponent ["teams", "team", "number"]) (F : Fn P w K mg base "_check_team_in_round" ["teams", "team", "number"] 4 spTR) : Fn P w K mg base "opponent" ["teams", "team", "number"] 5 spOpp := by
  refine d.fn scOpponent (fun vs H Q E h => ?_) (fun f cdv A outer s H vs Q E hr h => ?_)
  · obtain ⟨t, a, r, rfl, _⟩ := h
    rfl
  · obtain ⟨t, a, r, rfl, T, a0, a1, r0, r1, q⟩ := h
    have := T.two
    refine ⟨_, pss_cons (ps_expr (pe_f F hr (by decide) (by rfl) (pa_cons (pv 0) (pa_cons (pv 1) (pa_cons (pv 2) pa_nil)))))
      (pss_cons (ps_set (i := 3) scOpponent.nd rfl (.inl rfl) (pe_op op_sub (pv 0) pe_int))
      (pss_cons (ps_if (pt_cmpR op_eq (pv 1) (pv 3) (nomark _)) (pss_one (ps_ret (pv 2))) pss_nil)
      (pss_cons (ps_if (pt_cmpR op_eq (pv 1) (pv 2) (nomark _)) (pss_one (ps_ret (pv 3))) pss_nil)
      (pss_one (ps_ret (pe_op op_mod (pe_op op_sub (pe_op op_mul pe_int (pv 2)) (pv 1)) (pv 3))))))), ?_⟩
    refine ⟨.int t, rfl, .int a, rfl, .int r, rfl, t, a, r, rfl, T, a0, a1, r0, r1, .int t, rfl, t, 1, rfl, rfl, ?_⟩
    refine ⟨.int a, rfl, .int (t - 1), rfl, rfl, _, rfl, ite2 (fun e => ?_) (fun e => ?_)⟩
    · have e := V.int.inj (of_decide_eq_true e)
      have : opp t a r = r := by unfold opp; rw [if_pos e]
      rw [this] at q
      exact ⟨.int r, rfl, q⟩
    · have e1 : ¬ a = t - 1 := fun z => e (decide_eq_true (congrArg V.int z))
      refine ⟨.int a, rfl, .int r, rfl, rfl, _, rfl, ite2 (fun e => ?_) (fun e => ?_)⟩
      · have e := V.int.inj (of_decide_eq_true e)
        have : opp t a r = t - 1 := by unfold opp; rw [if_neg e1, if_pos e]
        rw [this] at q
        exact ⟨.int (t - 1), rfl, q⟩
      · have e2 : ¬ a = r := fun z => e (decide_eq_true (congrArg V.int z))
        have : opp t a r = (2 * r - a) % (t - 1) := by unfold opp; rw [if_neg e1, if_neg e2]
        rw [this] at q
        exact ⟨.int r, rfl, 2, r, rfl, rfl, .inl ⟨by decide, by decide⟩, .int a, rfl, 2 * r, a, rfl, rfl, .int (t - 1), rfl, 2 * r - a, t - 1, rfl, rfl, (by show (0 : Int) < t - 1; omega), q⟩
def spHome : Sp := fun vs H Q _ => ∃ t a r : Int, vs = [.int t, .int a, .int r] ∧ TOk t ∧ 0 ≤ a ∧ a < t ∧ 0 ≤ r ∧ r < t - 1 ∧ Q (.bl (home t a r)) H
theorem dec_int {x y : Int} : decide (V.int x = V.int y) = decide (x = y) := decide_eq_decide.mpr ⟨V.int.inj, congrArg V.int⟩
theorem fn_atHome (d : DefAt K mg "at_home" tAtHome ["teams", "team", "number"]) (F : Fn P w K mg base "_check_team_in_round" ["teams", "team", "number"] 4 spTR) : Fn P w K mg base "at_home" ["teams", "team", "number"] 5 spHome := by
  refine d.fn scAtHome (fun vs H Q E h => ?_) (fun f cdv A outer s H vs Q E hr h => ?_)
  · obtain ⟨t, a, r, rfl, _⟩ := h
    rfl
  · obtain ⟨t, a, r, rfl, T, a0, a1, r0, r1, q⟩ := h
    have := T.two
    refine ⟨_, pss_cons (ps_expr (pe_f F hr (by decide) (by rfl) (pa_cons (pv 0) (pa_cons (pv 1) (pa_cons (pv 2) pa_nil)))))
      (pss_cons (ps_set (i := 3) scAtHome.nd rfl (.inl rfl) (pe_op op_sub (pv 0) pe_int))
      (pss_cons (ps_if (pt_cmpR op_eq (pv 1) (pv 3) (nomark _)) (pss_one (ps_ret (pe_cmpR op_eq (pe_op op_mod (pv 2) pe_int) pe_int (nomark _)))) pss_nil)
      (pss_cons (ps_if (pt_cmpR op_eq (pv 1) (pv 2) (nomark _)) (pss_one (ps_ret (pe_cmpR op_eq (pe_op op_mod (pv 2) pe_int) pe_int (nomark _)))) pss_nil)
      (pss_one (ps_ret (pe_cmpR op_eq (pe_op op_mod (pe_op op_mod (pe_op op_sub (pv 1) (pv 2)) (pv 3)) pe_int) pe_int (nomark _))))))), ?_⟩
    refine ⟨.int t, rfl, .int a, rfl, .int r, rfl, t, a, r, rfl, T, a0, a1, r0, r1, .int t, rfl, t, 1, rfl, rfl, ?_⟩
    refine ⟨.int a, rfl, .int (t - 1), rfl, rfl, _, rfl, ite2 (fun e => ?_) (fun e => ?_)⟩
    · have e := V.int.inj (of_decide_eq_true e)
      have : home t a r = decide (V.int (r % 2) = V.int 0) := by unfold home; rw [if_pos e, dec_int]
      rw [this] at q
      exact ⟨.int r, rfl, r, 2, rfl, rfl, (by show (0 : Int) < 2; decide), rfl, q⟩
    · have e1 : ¬ a = t - 1 := fun z => e (decide_eq_true (congrArg V.int z))
      refine ⟨.int a, rfl, .int r, rfl, rfl, _, rfl, ite2 (fun e => ?_) (fun e => ?_)⟩
      · have e := V.int.inj (of_decide_eq_true e)
        have : home t a r = decide (V.int (r % 2) = V.int 1) := by unfold home; rw [if_neg e1, if_pos e, dec_int]
        rw [this] at q
        exact ⟨.int r, rfl, r, 2, rfl, rfl, (by show (0 : Int) < 2; decide), rfl, q⟩
      · have e2 : ¬ a = r := fun z => e (decide_eq_true (congrArg V.int z))
        have : home t a r = decide (V.int ((a - r) % (t - 1) % 2) = V.int 1) := by unfold home; rw [if_neg e1, if_neg e2, dec_int]
        rw [this] at q
        exact ⟨.int a, rfl, .int r, rfl, a, r, rfl, rfl, .int (t - 1), rfl, a - r, t - 1, rfl, rfl, (by show (0 : Int) < t - 1; omega), (a - r) % (t - 1), 2, rfl, rfl, (by show (0 : Int) < 2; decide), rfl, q⟩
def spRnd : Sp := fun vs H Q _ => ∃ t a b : Int, vs = [.int t, .int a, .int b] ∧ TOk t ∧ t.natAbs < 2 ^ 200 ∧ 0 ≤ a ∧ a < t ∧ 0 ≤ b ∧ b < t ∧ a ≠ b ∧ Q (.int (rnd t a b)) H
theorem fn_roundOf (d : DefAt K mg "round_of" tRoundOf ["teams", "one", "other"]) (F1 : Fn P w K mg base "check_teams" ["teams"] 2 spTeams) (F2 : Fn P w K mg base "check_team" ["teams", "team"] 3 spTeam) : Fn P w K mg base "round_of" ["teams", "one", "other"] 4 spRnd := by
  refine d.fn scRoundOf (fun vs H Q E h => ?_) (fun f cdv A outer s H vs Q E hr h => ?_)
  · obtain ⟨t, a, r, rfl, _⟩ := h
    rfl
  · obtain ⟨t, a, b, rfl, T, tb, a0, a1, b0, b1, ne, q⟩ := h
    have := T.two
    refine ⟨_, pss_cons (ps_expr (pe_f F1 hr (by decide) (by rfl) (pa_cons (pv 0) pa_nil))) (pss_cons (ps_expr (pe_f F2 hr (by decide) (by rfl) (pa_cons (pv 0) (pa_cons (pv 1) pa_nil))))
      (pss_cons (ps_expr (pe_f F2 hr (by decide) (by rfl) (pa_cons (pv 0) (pa_cons (pv 2) pa_nil))))
      (pss_cons (ps_if (pt_cmpR op_eq (pv 1) (pv 2) (nomark _)) (pss_one ps_never) pss_nil)
      (pss_cons (ps_set (i := 3) scRoundOf.nd rfl (.inl rfl) (pe_op op_sub (pv 0) pe_int))
      (pss_cons (ps_if (pt_cmpR op_eq (pv 1) (pv 3) (nomark _)) (pss_one (ps_ret (pv 2))) pss_nil)
      (pss_cons (ps_if (pt_cmpR op_eq (pv 2) (pv 3) (nomark _)) (pss_one (ps_ret (pv 1))) pss_nil)
      (pss_one (ps_ret (pe_op op_mod (pe_op op_mulW (pe_op op_add (pv 1) (pv 2)) (pe_op op_fdiv (pv 0) pe_int)) (pv 3)))))))))), ?_⟩
    refine ⟨.int t, rfl, t, rfl, T, .int t, rfl, .int a, rfl, t, a, rfl, a0, a1, .int t, rfl, .int b, rfl, t, b, rfl, b0, b1, ?_⟩
    refine ⟨.int a, rfl, .int b, rfl, rfl, _, rfl, itF (fun z => ne (V.int.inj z)) ?_⟩
    refine ⟨.int t, rfl, t, 1, rfl, rfl, ?_⟩
    refine ⟨.int a, rfl, .int (t - 1), rfl, rfl, _, rfl, ite2 (fun e => ?_) (fun e => ?_)⟩
    · have e := V.int.inj (of_decide_eq_true e)
      have : rnd t a b = b := by unfold rnd; rw [if_pos e]
      rw [this] at q
      exact ⟨.int b, rfl, q⟩
    · have e1 : ¬ a = t - 1 := fun z => e (decide_eq_true (congrArg V.int z))
      refine ⟨.int b, rfl, .int (t - 1), rfl, rfl, _, rfl, ite2 (fun e => ?_) (fun e => ?_)⟩
      · have e := V.int.inj (of_decide_eq_true e)
        have : rnd t a b = a := by unfold rnd; rw [if_neg e1, if_pos e]
        rw [this] at q
        exact ⟨.int a, rfl, q⟩
      · have e2 : ¬ b = t - 1 := fun z => e (decide_eq_true (congrArg V.int z))
        have : rnd t a b = (a + b) * (t / 2) % (t - 1) := by unfold rnd; rw [if_neg e1, if_neg e2]
        rw [this] at q
        have p1 : (2 : Nat) ^ 201 = 2 * 2 ^ 200 := by rw [Nat.pow_succ, Nat.mul_comm]
        have h1 : (a + b).natAbs < 2 ^ 201 := by rw [p1]; generalize (2 : Nat) ^ 200 = z at *; omega
        have h2 : (t / 2).natAbs < 2 ^ 200 := by generalize (2 : Nat) ^ 200 = z at *; omega
        exact ⟨.int a, rfl, .int b, rfl, a, b, rfl, rfl, .int t, rfl, t, 2, rfl, rfl, ⟨by decide, by decide⟩, a + b, t / 2, rfl, rfl, wide_mul h1 h2 (by decide) (by decide) (by decide), .int (t - 1), rfl, _, t - 1, rfl, rfl, (by show (0 : Int) < t - 1; omega), q⟩
end
end EM
namespace EM
open PySem PySem.Spec PyProof.Rows L2
abbrev tCell : Stmt := topS 18
abbrev tDraw : Stmt := topS 19
abbrev tValue : Stmt := topS 20
abbrev tTeams : Stmt := topS 21
abbrev tWhole : Stmt := topS 22
abbrev tSays : Stmt := topS 26
theorem scCell : FnScope ["_law_script", "_law_k"] ["_law_script", "_law_k"] (defScope tCell) := ⟨rfl, rfl, rfl, by decide +kernel, rfl, by decide +kernel, by decide +kernel⟩
theorem scDraw : FnScope ["_law_cell", "_law_k", "_law_many", "_law_primes"] ["_law_cell", "_law_k", "_law_many"] (defScope tDraw) := ⟨rfl, rfl, rfl, by decide +kernel, rfl, by decide +kernel, by decide +kernel⟩
theorem scValue : FnScope ["_law_cell", "_law_k", "_law_limit"] ["_law_cell", "_law_k", "_law_limit"] (defScope tValue) := ⟨rfl, rfl, rfl, by decide +kernel, rfl, by decide +kernel, by decide +kernel⟩
theorem scTeams : FnScope ["_law_script", "_law_k", "_law_drawn"] ["_law_script", "_law_k"] (defScope tTeams) := ⟨rfl, rfl, rfl, by decide +kernel, rfl, by decide +kernel, by decide +kernel⟩
theorem scWhole : FnScope ["_law_number"] ["_law_number"] (defScope tWhole) := ⟨rfl, rfl, rfl, by decide +kernel, rfl, by decide +kernel, by decide +kernel⟩
theorem scSays : FnScope ["_law_said", "_law_due"] ["_law_said", "_law_due"] (defScope tSays) := ⟨rfl, rfl, rfl, by decide +kernel, rfl, by decide +kernel, by decide +kernel⟩
/-! written tuples of numbers that are picked from -/
def posB (b : Int) : V → Bool
  | .int i => decide (0 < i) && decide (i ≤ b)
  | _ => false
theorem pick {b : Int} {xs : List V} (h : xs.all (posB b) = true) {j : Nat} (hj : j < xs.length) : ∃ p : Int, xs[j]? = some (.int p) ∧ 0 < p ∧ p ≤ b := by
  have h1 := List.all_eq_true.mp h _ (List.getElem_mem hj)
  cases e : xs[j] with
  | int p =>
    rw [e] at h1
    simp only [posB, Bool.and_eq_true, decide_eq_true_eq] at h1
    exact ⟨p, by rw [List.getElem?_eq_getElem hj, e], h1.1, h1.2⟩
  | _ =>
    rw [e] at h1
    exact absurd h1 (by simp [posB])
theorem pickI {b i : Int} {xs : List V} (h : xs.all (posB b) = true) (i0 : 0 ≤ i) (i1 : i < (xs.length : Int)) : ∃ p : Int, atI xs i = some (.int p) ∧ 0 < p ∧ p ≤ b := by
  obtain ⟨p, e, p0, p1⟩ := pick h (j := i.toNat) (by omega)
  refine ⟨p, ?_, p0, p1⟩
  have := atI_nat e
  rw [show ((i.toNat : Nat) : Int) = i by omega] at this
  exact this
abbrev bits20 (c : Int) : Prop := c.natAbs.log2 ≤ 1048576
theorem log2_lt_self (n : Nat) : n.log2 ≤ n := by
  rcases Nat.eq_zero_or_pos n with rfl | h
  · decide
  · have := Nat.log2_self_le (show n ≠ 0 by omega)
    have : n.log2 < 2 ^ n.log2 := Nat.lt_two_pow_self
    omega
section
variable {P : Program} {w : World} {K : PySem.W.Frag} {mg : Str → Option Value} {base : Heap}
/-! ### a cell of the script -/
def spCell (K : PySem.W.Frag) : Sp := fun vs H Q _ => ∃ (a : Addr) (ns : List Int) (k : Int), vs = [.ref a, .int k] ∧ SqL K H a (ns.map V.int) ∧ 0 ≤ k ∧ ∀ c : Int, (c = 0 ∨ c ∈ ns) → Q (.int c) H
theorem fn_cell (d : DefAt K mg "_law_cell_at" tCell ["_law_script", "_law_k"]) (T : Names mg) : Fn P w K mg base "_law_cell_at" ["_law_script", "_law_k"] 1 (spCell K) := by
  refine d.fn scCell (fun vs H Q E h => ?_) (fun f cdv A outer s H vs Q E hr h => ?_)
  · obtain ⟨a, ns, k, rfl, _⟩ := h
    rfl
  · obtain ⟨a, ns, k, rfl, hS, k0, q⟩ := h
    refine ⟨_, pss_cons (ps_if (pt_cmpR op_lt (pv 1) (pe_callB call_len_seq (by rfl) T.len PySem.boot_len (pa_cons (pv 0) pa_nil)) (nomark _)) (pss_one (ps_ret (pe_ix ix_list (pv 0) (pv 1) (fun _ _ => rfl)))) pss_nil) (pss_one (ps_ret pe_int)), ?_⟩
    refine ⟨.int k, rfl, .ref a, rfl, a, _, rfl, .inl hS, k, _, rfl, rfl, _, rfl, ite2 (fun e => ?_) (fun e => ?_)⟩
    · have e := of_decide_eq_true e
      rw [List.length_map] at e
      obtain ⟨j, rfl⟩ : ∃ j : Nat, k = (j : Int) := ⟨k.toNat, by omega⟩
      have hj : j < ns.length := by omega
      refine ⟨.ref a, rfl, .int (j : Int), rfl, a, _, _, .int ns[j], rfl, rfl, hS, atI_nat ?_, q _ (.inr (List.getElem_mem hj))⟩
      rw [List.getElem?_map, List.getElem?_eq_getElem hj]
      rfl
    · exact q 0 (.inl rfl)
/-! ### a drawn number -/
def spDraw : Sp := fun vs H Q _ => ∃ c k m : Int, vs = [.int c, .int k, .int m] ∧ 0 < m ∧ ∀ (v : Int) (H' : Hp), 0 ≤ v → v < m → Same H H' → Q (.int v) H'
theorem fn_draw (d : DefAt K mg "_law_draw" tDraw ["_law_cell", "_law_k", "_law_many"]) : Fn P w K mg base "_law_draw" ["_law_cell", "_law_k", "_law_many"] 1 spDraw := by
  refine d.fn scDraw (fun vs H Q E h => ?_) (fun f cdv A outer s H vs Q E hr h => ?_)
  · obtain ⟨c, k, m, rfl, _⟩ := h
    rfl
  · obtain ⟨c, k, m, rfl, m0, q⟩ := h
    refine ⟨_, pss_cons (ps_set (i := 3) scDraw.nd rfl (.inl rfl) (pe_tup (pa_cons pe_int (pa_cons pe_int (pa_cons pe_int (pa_cons pe_int (pa_cons pe_int (pa_cons pe_int (pa_cons pe_int (pa_cons pe_int
        (pa_cons pe_int (pa_cons pe_int (pa_cons pe_int (pa_cons pe_int (pa_cons pe_int (pa_cons pe_int (pa_cons pe_int (pa_cons pe_int pa_nil))))))))))))))))))
      (pss_one (ps_ret (pe_op op_mod (pe_op op_mod (pe_op op_add (pe_op op_mul (pv 0) pe_int) (pe_op op_mul (pv 1) pe_int)) (pe_ix ix_tup (pv 3) (pe_op op_mod (pv 1) pe_int) (fun _ _ => rfl))) (pv 2)))), ?_⟩
    refine ⟨by show 16 ≤ sizeLine; decide, fun p np => ?_⟩
    have x0 : 0 ≤ k % 16 := Int.emod_nonneg _ (by decide)
    have x1 : k % 16 < 16 := Int.emod_lt_of_pos _ (by decide)
    refine ⟨.int c, rfl, c, _, rfl, rfl, .inr ⟨by decide, by decide⟩, .int k, rfl, k, _, rfl, rfl, .inr ⟨by decide, by decide⟩, _, _, rfl, rfl, ?_⟩
    obtain ⟨z, hz, z0, _⟩ := pickI (b := 2000000) (i := k % 16) (xs := [.int 1000003, .int 1000033, .int 1000037, .int 1000039, .int 1000081, .int 1000099, .int 1000117, .int 1000121,
      .int 1000133, .int 1000151, .int 1000159, .int 1000171, .int 1000183, .int 1000187, .int 1000193, .int 1000199]) (by decide) x0 x1
    refine ⟨.ref p, rfl, .int k, rfl, k, 16, rfl, rfl, (by show (0 : Int) < 16; decide), p, _, k % 16, .int z, rfl, rfl, .inl (.inl upd_same), hz, ?_⟩
    refine ⟨_, z, rfl, rfl, z0, .int m, rfl, _, m, rfl, rfl, m0, ?_⟩
    exact q _ _ (Int.emod_nonneg _ (by omega)) (Int.emod_lt_of_pos _ m0) (same_upd np)
/-! ### a value: to forty figures -/
def spValue : Sp := fun vs H Q _ => ∃ c k : Int, vs = [.int c, .int k, .int 900000] ∧ bits20 c ∧ 0 ≤ k ∧ k ≤ 100 ∧ ∀ (v : Int) (H' : Hp), 0 ≤ v → v < 10 ^ 40 → Same H H' → Q (.int v) H'
theorem sum_bits {c e : Int} (hc : bits20 c) (e0 : 0 ≤ e) (e1 : e ≤ 1000000) : (c + e).natAbs.log2 < 2000000 := by
  unfold bits20 at hc
  have h1 : c.natAbs < 2 ^ 1048577 := by
    have := Nat.lt_log2_self (n := c.natAbs)
    exact Nat.lt_of_lt_of_le this (Nat.pow_le_pow_right (by decide) (by omega))
  have h2 : e.natAbs < 2 ^ 1048577 := by
    have : (1000000 : Nat) < 2 ^ 20 := by decide
    exact Nat.lt_of_lt_of_le (show e.natAbs < 2 ^ 20 by omega) (Nat.pow_le_pow_right (by decide) (by decide))
  have h3 : (c + e).natAbs < 2 ^ 1048578 := by
    have p : (2 : Nat) ^ 1048578 = 2 * 2 ^ 1048577 := by rw [show (1048578 : Nat) = 1048577 + 1 from rfl, Nat.pow_succ, Nat.mul_comm]
    rw [p]
    generalize (2 : Nat) ^ 1048577 = z at *
    omega
  have := PySem.Flt.log2_lt_of (by decide) h3
  omega
theorem fn_value (d : DefAt K mg "_law_value" tValue ["_law_cell", "_law_k", "_law_limit"]) (F : Fn P w K mg base "_law_draw" ["_law_cell", "_law_k", "_law_many"] 1 spDraw) : Fn P w K mg base "_law_value" ["_law_cell", "_law_k", "_law_limit"] 2 spValue := by
  refine d.fn scValue (fun vs H Q E h => ?_) (fun f cdv A outer s H vs Q E hr h => ?_)
  · obtain ⟨c, k, rfl, _⟩ := h
    rfl
  · obtain ⟨c, k, rfl, hc, k0, k1, q⟩ := h
    refine ⟨_, pss_cons (ps_if (pt_cmpR op_ge (pv 0) (pe_op op_pow pe_int pe_int) (nomark _)) (pss_one (ps_ret (pe_op op_mod (pe_op op_fdiv (pe_op op_sub (pv 0) (pe_op op_pow pe_int pe_int))
        (pe_ix ix_tup (pe_tup (pa_cons pe_int (pa_cons pe_int (pa_cons pe_int (pa_cons pe_int pa_nil))))) (pe_op op_mod (pv 1) pe_int) (fun _ _ => rfl))) (pe_op op_pow pe_int pe_int)))) pss_nil)
      (pss_one (ps_ret (pe_f F hr (by decide) (by rfl) (pa_cons (pe_op op_mulH (pe_op op_add (pv 0) (pe_op op_mul pe_int (pv 1))) (pe_op op_add (pe_op op_add (pv 0) (pe_op op_mul pe_int (pv 1))) pe_int))
        (pa_cons (pe_op op_add (pe_op op_mod (pv 1) pe_int) pe_int) (pa_cons (pv 2) pa_nil)))))), ?_⟩
    refine ⟨.int c, rfl, 10, 18, rfl, rfl, ⟨by decide, by decide, by decide⟩, c, _, rfl, rfl, _, rfl, ite2 (fun e => ?_) (fun e => ?_)⟩
    · refine ⟨.int c, rfl, 10, 18, rfl, rfl, ⟨by decide, by decide, by decide⟩, c, _, rfl, rfl, by show 4 ≤ sizeLine; decide, fun p np => ?_⟩
      have x0 : 0 ≤ k % 4 := Int.emod_nonneg _ (by decide)
      have x1 : k % 4 < 4 := Int.emod_lt_of_pos _ (by decide)
      obtain ⟨z, hz, z0, z1⟩ := pickI (b := 1000) (i := k % 4) (xs := [.int 1, .int 7, .int 49, .int 343]) (by decide) x0 x1
      refine ⟨.int k, rfl, k, 4, rfl, rfl, (by show (0 : Int) < 4; decide), p, _, k % 4, .int z, rfl, rfl, .inl (.inl upd_same), hz, ?_⟩
      refine ⟨_, z, rfl, rfl, ⟨z0, by omega⟩, 10, 40, rfl, rfl, ⟨by decide, by decide, by decide⟩, _, _, rfl, rfl, (by show (0 : Int) < (10 : Int) ^ (40 : Int).toNat; decide), ?_⟩
      exact q _ _ (Int.emod_nonneg _ (by decide)) (Int.emod_lt_of_pos _ (by decide)) (same_upd np)
    · refine ⟨.int c, rfl, .int k, rfl, 977, k, rfl, rfl, .inl ⟨by decide, by decide⟩, c, 977 * k, rfl, rfl, .int c, rfl, .int k, rfl, 31, k, rfl, rfl, .inl ⟨by decide, by decide⟩, c, 31 * k, rfl, rfl, c + 31 * k, 5, rfl, rfl, c + 977 * k, c + 31 * k + 5, rfl, rfl, ?_,
        .int k, rfl, k, 9, rfl, rfl, (by show (0 : Int) < 9; decide), k % 9, 1, rfl, rfl, .int 900000, rfl, _, _, 900000, rfl, by decide, fun v H' v0 v1 sm => ?_⟩
      · have h1 := sum_bits (e := 977 * k) hc (by omega) (by omega)
        have h2 := sum_bits (e := 31 * k + 5) hc (by omega) (by omega)
        rw [← Int.add_assoc] at h2
        show _ + _ < 100000000
        omega
      · exact q v H' v0 (Int.lt_of_lt_of_le v1 (by decide)) sm
/-! ### a count of teams -/
def spCount (K : PySem.W.Frag) : Sp := fun vs H Q _ => ∃ (a : Addr) (ns : List Int) (k : Int), vs = [.ref a, .int k] ∧ SqL K H a (ns.map V.int) ∧ (∀ n ∈ ns, bits20 n) ∧ 0 ≤ k ∧ k ≤ 90 ∧ ∀ (t : Int) (H' : Hp), TOk t → t ≤ 2 + 2 * 10 ^ 40 → Same H H' → Q (.int t) H'
theorem fn_teams (d : DefAt K mg "_law_teams" tTeams ["_law_script", "_law_k"]) (F1 : Fn P w K mg base "_law_cell_at" ["_law_script", "_law_k"] 1 (spCell K)) (F2 : Fn P w K mg base "_law_draw" ["_law_cell", "_law_k", "_law_many"] 1 spDraw)
    (F3 : Fn P w K mg base "_law_value" ["_law_cell", "_law_k", "_law_limit"] 2 spValue) : Fn P w K mg base "_law_teams" ["_law_script", "_law_k"] 3 (spCount K) := by
  refine d.fn scTeams (fun vs H Q E h => ?_) (fun f cdv A outer s H vs Q E hr h => ?_)
  · obtain ⟨a, ns, k, rfl, _⟩ := h
    rfl
  · obtain ⟨a, ns, k, rfl, hS, hb, k0, k1, q⟩ := h
    refine ⟨_, pss_cons (ps_set (i := 2) scTeams.nd rfl (.inl rfl) (pe_f F3 hr (by decide) (by rfl) (pa_cons (pe_f F1 hr (by decide) (by rfl) (pa_cons (pv 0) (pa_cons (pv 1) pa_nil))) (pa_cons (pe_op op_add (pv 1) pe_int) (pa_cons pe_int pa_nil)))))
      (pss_one (ps_ret (pe_op op_add pe_int (pe_op op_mul pe_int (pe_op op_mod (pv 2) (pe_ix ix_tup (pe_tup (pa_cons pe_int (pa_cons pe_int (pa_cons pe_int (pa_cons (pe_op op_pow pe_int pe_int) pa_nil)))))
        (pe_f F2 hr (by decide) (by rfl) (pa_cons (pe_op op_add (pe_op op_mod (pe_f F1 hr (by decide) (by rfl) (pa_cons (pv 0) (pa_cons (pv 1) pa_nil))) (pe_op op_pow pe_int pe_int)) (pe_op op_mul pe_int (pv 1))) (pa_cons pe_int (pa_cons pe_int pa_nil)))) (fun _ _ => rfl))))))), ?_⟩
    refine ⟨.ref a, rfl, .int k, rfl, a, ns, k, rfl, hS, k0, fun c hc => ?_⟩
    have cb : bits20 c := by
      rcases hc with rfl | hc
      · show (0 : Int).natAbs.log2 ≤ _
        decide
      · exact hb c hc
    refine ⟨.int k, rfl, k, 2, rfl, rfl, c, k + 2, rfl, cb, by omega, by omega, fun v H1 v0 v1 s1 => ?_⟩
    refine ⟨.int v, rfl, 10, 40, rfl, rfl, ⟨by decide, by decide, by decide⟩, by show 4 ≤ sizeLine; decide, fun p np => ?_⟩
    have s2 := s1.trans (same_upd (o := .tup [.int 4, .int 15, .int 900, .int ((10 : Int) ^ (40 : Int).toNat)]) np)
    refine ⟨.ref a, rfl, .int k, rfl, a, ns, k, rfl, s2.seq hS, k0, fun c2 _ => ?_⟩
    refine ⟨10, 18, rfl, rfl, ⟨by decide, by decide, by decide⟩, c2, _, rfl, rfl, (by show (0 : Int) < (10 : Int) ^ (18 : Int).toNat; decide), .int k, rfl, 31, k, rfl, rfl, .inl ⟨by decide, by decide⟩, _, _, rfl, rfl, _, 6, 4, rfl, by decide, fun u H2 u0 u1 s3 => ?_⟩
    obtain ⟨z, hz, z0, z1⟩ := pickI (b := 10 ^ 40) (i := u) (xs := [.int 4, .int 15, .int 900, .int ((10 : Int) ^ (40 : Int).toNat)]) (by decide) u0 u1
    refine ⟨p, _, u, .int z, rfl, rfl, .inl (.inl (s3 _ _ upd_same)), hz, v, z, rfl, rfl, z0, 2, v % z, rfl, rfl, .inl ⟨by decide, by decide⟩, 2, 2 * (v % z), rfl, rfl, ?_⟩
    have y0 := Int.emod_nonneg v (show z ≠ 0 by omega)
    have y1 := Int.emod_lt_of_pos v z0
    exact q _ _ ⟨by omega, by omega⟩ (by omega) (s2.trans s3)
/-! ### _law_whole, _law_says -/
theorem fn_whole (d : DefAt K mg "_law_whole" tWhole ["_law_number"]) (T : Names mg) : Fn P w K mg base "_law_whole" ["_law_number"] 1 spWhole := by
  refine d.fn scWhole (fun vs H Q E h => ?_) (fun f cdv A outer s H vs Q E hr h => ?_)
  · obtain ⟨n, rfl, _⟩ := h
    rfl
  · obtain ⟨n, rfl, q⟩ := h
    refine ⟨_, pss_one (ps_ret (pe_and (pe_callB call_isi (by rfl) T.isinst boot_isinstance (pa_cons (pv 0) (pa_cons (pe_bltn (v := .ty "int") (by rfl) T.int boot_int rfl) pa_nil)))
      (pe_one (pe_not (pe_callB call_isi (by rfl) T.isinst boot_isinstance (pa_cons (pv 0) (pa_cons (pe_bltn (v := .ty "bool") (by rfl) T.bool boot_bool rfl) pa_nil))))))), ?_⟩
    refine ⟨.int n, rfl, .int n, .ty "int", _, _, true, rfl, .ty "int", .base (.int n), kit_ty (by decide +kernel), true, rfl, iteT ?_⟩
    exact ⟨.int n, rfl, .int n, .ty "bool", _, _, false, rfl, .ty "bool", .base (.int n), kit_ty (by decide +kernel), false, rfl, q⟩
def spSays : Sp := fun vs H Q _ => ∃ b : Bool, vs = [.bl b, .bl b] ∧ Q (.bl true) H
theorem fn_says (d : DefAt K mg "_law_says" tSays ["_law_said", "_law_due"]) (T : Names mg) : Fn P w K mg base "_law_says" ["_law_said", "_law_due"] 1 spSays := by
  refine d.fn scSays (fun vs H Q E h => ?_) (fun f cdv A outer s H vs Q E hr h => ?_)
  · obtain ⟨n, rfl, _⟩ := h
    rfl
  · obtain ⟨b, rfl, q⟩ := h
    refine ⟨_, pss_one (ps_ret (pe_and (pe_callB call_isi (by rfl) T.isinst boot_isinstance (pa_cons (pv 0) (pa_cons (pe_bltn (v := .ty "bool") (by rfl) T.bool boot_bool rfl) pa_nil)))
      (pe_one (pe_cmpR op_eq (pv 0) (pv 1) (nomark _))))), ?_⟩
    refine ⟨.bl b, rfl, .bl b, .ty "bool", _, _, true, rfl, .ty "bool", .base (.bl b), kit_ty (by decide +kernel), true, rfl, iteT ?_⟩
    refine ⟨.bl b, rfl, .bl b, rfl, rfl, ?_⟩
    show Q (.bl (decide (V.bl b = V.bl b))) H
    rw [decide_eq_true rfl]
    exact q
end
end EM
namespace EM
open PySem PySem.Spec PyProof.Rows L2
abbrev tRight : Stmt := topS 27
abbrev tTwo : Stmt := topS 28
theorem scRight : FnScope ["_law_teams_here", "_law_team", "_law_number", "_law_again", "_law_found", "_law_met", "_law_home", "_law_one"] ["_law_teams_here", "_law_team", "_law_number"] (defScope tRight) := ⟨rfl, rfl, rfl, by decide +kernel, rfl, by decide +kernel, by decide +kernel⟩
theorem scTwo : FnScope ["_law_teams_here", "_law_one", "_law_other", "_law_number"] ["_law_teams_here", "_law_one", "_law_other"] (defScope tTwo) := ⟨rfl, rfl, rfl, by decide +kernel, rfl, by decide +kernel, by decide +kernel⟩
section
variable {P : Program} {w : World} {K : PySem.W.Frag} {mg : Str → Option Value} {base : Heap}
/-- what the promises of the plan's defs are leaned on for -/
structure Plans (P : Program) (w : World) (K : PySem.W.Frag) (mg : Str → Option Value) (base : Heap) : Prop where
  opp : Fn P w K mg base "opponent" ["teams", "team", "number"] 5 spOpp
  home : Fn P w K mg base "at_home" ["teams", "team", "number"] 5 spHome
  rnd : Fn P w K mg base "round_of" ["teams", "one", "other"] 4 spRnd
  whole : Fn P w K mg base "_law_whole" ["_law_number"] 1 spWhole
  says : Fn P w K mg base "_law_says" ["_law_said", "_law_due"] 1 spSays
/-! ### _law_two_right -/
def spTwo : Sp := fun vs H Q _ => ∃ t a b : Int, vs = [.int t, .int a, .int b] ∧ TOk t ∧ t.natAbs < 2 ^ 200 ∧ 0 ≤ a ∧ a < t ∧ 0 ≤ b ∧ b < t ∧ a ≠ b ∧ Q (.bl true) H
theorem fn_two (d : DefAt K mg "_law_two_right" tTwo ["_law_teams_here", "_law_one", "_law_other"]) (F : Plans P w K mg base) : Fn P w K mg base "_law_two_right" ["_law_teams_here", "_law_one", "_law_other"] 6 spTwo := by
  refine d.fn scTwo (fun vs H Q E h => ?_) (fun f cdv A outer s H vs Q E hr h => ?_)
  · obtain ⟨t, a, b, rfl, _⟩ := h
    rfl
  · obtain ⟨t, a, b, rfl, T, tb, a0, a1, b0, b1, ne, q⟩ := h
    obtain ⟨x0, x1, e1, e2⟩ := rnd_ok T a0 a1 b0 b1 ne
    refine ⟨_, pss_cons (ps_set (i := 3) scTwo.nd rfl (.inl rfl) (pe_f F.rnd hr (by decide) (by rfl) (pa_cons (pv 0) (pa_cons (pv 1) (pa_cons (pv 2) pa_nil)))))
      (pss_cons (ps_if (PW.pt (pw_or (pt_not (pt_val (pe_f F.whole hr (by decide) (by rfl) (pa_cons (pv 3) pa_nil)))) (pw_or1 (pt_not (pt_chain op_le op_lt pe_int (pv 3) (pe_op op_sub (pv 0) pe_int)))))) (pss_one ps_never) pss_nil)
      (pss_one (ps_ret (pe_and (pe_cmpR op_eq (pe_f F.opp hr (by decide) (by rfl) (pa_cons (pv 0) (pa_cons (pv 1) (pa_cons (pv 3) pa_nil)))) (pv 2) (nomark _))
        (pe_one (pe_cmpR op_eq (pe_f F.opp hr (by decide) (by rfl) (pa_cons (pv 0) (pa_cons (pv 2) (pa_cons (pv 3) pa_nil)))) (pv 1) (nomark _))))))), ?_⟩
    refine ⟨.int t, rfl, .int a, rfl, .int b, rfl, t, a, b, rfl, T, tb, a0, a1, b0, b1, ne, ?_⟩
    generalize rnd t a b = r at *
    refine ⟨.int r, rfl, r, rfl, true, rfl, iteF ⟨.int r, rfl, 0, r, rfl, rfl, true, ?_, iteT ⟨.int t, rfl, t, 1, rfl, rfl, r, t - 1, rfl, rfl, true, ?_, iteF ?_⟩⟩⟩
    · exact congrArg V.bl (decide_eq_true x0)
    · exact congrArg V.bl (decide_eq_true x1)
    · refine ⟨.int t, rfl, .int a, rfl, .int r, rfl, t, a, r, rfl, T, a0, a1, x0, x1, .int b, rfl, rfl, true, by rw [e1, decide_eq_true rfl], iteT ?_⟩
      refine ⟨.int t, rfl, .int b, rfl, .int r, rfl, t, b, r, rfl, T, b0, b1, x0, x1, .int a, rfl, rfl, ?_⟩
      rw [e2, decide_eq_true rfl]
      exact q
/-! ### _law_right -/
def spRight : Sp := fun vs H Q _ => ∃ t a r : Int, vs = [.int t, .int a, .int r] ∧ TOk t ∧ t.natAbs < 2 ^ 200 ∧ 0 ≤ a ∧ a < t ∧ 0 ≤ r ∧ r < t - 1 ∧ ∀ H', Same H H' → Q (.bl true) H'
theorem fn_right (d : DefAt K mg "_law_right" tRight ["_law_teams_here", "_law_team", "_law_number"]) (N : Names mg) (F : Plans P w K mg base) : Fn P w K mg base "_law_right" ["_law_teams_here", "_law_team", "_law_number"] 6 spRight := by
  refine d.fn scRight (fun vs H Q E h => ?_) (fun f cdv A outer s H vs Q E hr h => ?_)
  · obtain ⟨t, a, b, rfl, _⟩ := h
    rfl
  · obtain ⟨t, a, r, rfl, T, tb, a0, a1, r0, r1, q⟩ := h
    refine ⟨_, pss_cons (ps_for PassesOwn.never rfl (pi_range1 (by rfl) N.range (pa_cons pe_int pa_nil)) (pg_name (i := 3) scRight.nd rfl (.inl rfl))
        (pss_cons (ps_set (i := 4) scRight.nd rfl (.inl rfl) (pe_f F.opp hr (by decide) (by rfl) (pa_cons (pv 0) (pa_cons (pv 1) (pa_cons (pv 2) pa_nil)))))
        (pss_cons (ps_if (PW.pt (pw_or (pt_not (pt_val (pe_f F.whole hr (by decide) (by rfl) (pa_cons (pv 4) pa_nil)))) (pw_or (pt_not (pt_chain op_le op_lt pe_int (pv 4) (pv 0)))
          (pw_or (pt_cmpR op_eq (pv 4) (pv 1) (nomark _)) (pw_or1 (pt_cmpR op_ne (pe_f F.opp hr (by decide) (by rfl) (pa_cons (pv 0) (pa_cons (pv 4) (pa_cons (pv 2) pa_nil)))) (pv 1) (nomark _))))))) (pss_one ps_never) pss_nil)
        (pss_cons (ps_set (i := 5) scRight.nd rfl (.inl rfl) (pe_lst (pa_cons (pe_f F.rnd hr (by decide) (by rfl) (pa_cons (pv 0) (pa_cons (pv 1) (pa_cons (pv 4) pa_nil)))) (pa_cons (pe_f F.rnd hr (by decide) (by rfl) (pa_cons (pv 0) (pa_cons (pv 4) (pa_cons (pv 1) pa_nil)))) pa_nil))))
        (pss_cons (ps_if (PW.pt (pw_or (pt_not (pt_val (pe_callB (cr_all rfl) (by rfl) N.all boot_all (pa_cons
            (pe_lc (own := [("_law_one", 7)]) (g := gName 7) (tt := tYes) rfl scRight.nd (pi_list (pv 5)) (blkOk_by (N := ["_law_teams_here", "_law_team", "_law_number", "_law_again", "_law_found", "_law_met", "_law_home", "_law_one"]) (sc := defScope tRight) (by decide +kernel))
              (fun _ _ _ _ _ => pg_name (i := 7) scRight.nd rfl (Or.inl rfl)) (fun _ _ _ _ _ => pts_nil) (fun _ _ _ _ _ => pe_f F.whole hr (by decide) (by rfl) (pa_cons (pv 7) pa_nil))) pa_nil))))
          (pw_or1 (pt_cmpR (op_neD hr.units) (pv 5) (pe_lst (pa_cons (pv 2) (pa_cons (pv 2) pa_nil))) (nomark _))))) (pss_one ps_never) pss_nil)
        (pss_cons (ps_set (i := 6) scRight.nd rfl (.inl rfl) (pe_f F.home hr (by decide) (by rfl) (pa_cons (pv 0) (pa_cons (pv 1) (pa_cons (pv 2) pa_nil)))))
        (pss_one (ps_if (PW.pt (pw_or (pt_not (pt_val (pe_callB call_isi (by rfl) N.isinst boot_isinstance (pa_cons (pv 6) (pa_cons (pe_bltn (v := .ty "bool") (by rfl) N.bool boot_bool rfl) pa_nil)))))
          (pw_or1 (pt_not (pt_val (pe_f F.says hr (by decide) (by rfl) (pa_cons (pe_f F.home hr (by decide) (by rfl) (pa_cons (pv 0) (pa_cons (pv 4) (pa_cons (pv 2) pa_nil)))) (pa_cons (pe_not (pv 6)) pa_nil)))))))) (pss_one ps_never) pss_nil))))))))
      (pss_one (ps_ret pe_bl)), ?_⟩
    refine ⟨2, rfl, by decide, by decide, for_range (n := 2) (fun i σ H' => Same H H' ∧ ∃ y3 y4 y5 y6 y7, σ = [some (.int t), some (.int a), some (.int r), y3, y4, y5, y6, y7]) ⟨Same.refl H, none, none, none, none, none, rfl⟩ ?_ ?_⟩
    · rintro i σ H1 hi ⟨s1, y3, y4, y5, y6, y7, rfl⟩
      refine ⟨.int t, rfl, .int a, rfl, .int r, rfl, t, a, r, rfl, T, a0, a1, r0, r1, ?_⟩
      have ol := opp_lt T a0 a1 r0 r1
      have on := opp_ne T a0 a1 r0 r1
      have oo := opp_opp T a0 a1 r0 r1
      have ro := rnd_opp T a0 a1 r0 r1
      have ho := home_opp T a0 a1 r0 r1
      generalize opp t a r = x at *
      obtain ⟨x0, x1⟩ := ol
      obtain ⟨ro1, ro2⟩ := ro
      refine ⟨.int x, rfl, x, rfl, true, rfl, iteF ⟨.int x, rfl, 0, x, rfl, rfl, true, ?_, iteT ⟨.int t, rfl, x, t, rfl, rfl, true, ?_, iteF ⟨.int x, rfl, .int a, rfl, rfl, _, rfl, itF (fun z => on (V.int.inj z)) ?_⟩⟩⟩⟩
      · exact congrArg V.bl (decide_eq_true x0)
      · exact congrArg V.bl (decide_eq_true x1)
      refine ⟨.int t, rfl, .int x, rfl, .int r, rfl, t, x, r, rfl, T, x0, x1, r0, r1, .int a, rfl, rfl, _, rfl, ?_⟩
      rw [oo]
      refine iteNS (c := V.int a = V.int a) rfl ?_
      -- the round in which they meet, both ways
      refine ⟨.int t, rfl, .int a, rfl, .int x, rfl, t, a, x, rfl, T, tb, a0, a1, x0, x1, fun z => on z.symm, .int t, rfl, .int x, rfl, .int a, rfl, t, x, a, rfl, T, tb, x0, x1, a0, a1, on, by show 2 ≤ sizeLine; decide, fun p np => ?_⟩
      rw [ro1, ro2]
      have s2 := same_upd (o := .lst [.int r, .int r]) np
      refine ⟨.ref p, rfl, p, rfl, ⟨_, .inl (.inl upd_same)⟩, fun D nD => lc_list (K := K) (a := p) (xs := [.int r, .int r]) (fun i H' => Same (upd H1 p (.lst [.int r, .int r])) H' ∧ H' D = some (.lst ((List.replicate i true).map V.bl))) ⟨same_upd nD, upd_same⟩ (fun i H' _ h => h.1.seq (.inl (.inl upd_same))) ?_ ?_⟩
      · rintro i y H2 hy ⟨s3, e3⟩
        have ey : y = .int r := by
          rcases i with _ | _ | i
          · exact (Option.some.inj hy).symm
          · exact (Option.some.inj hy).symm
          · exact absurd hy (by simp)
        subst ey
        refine ⟨rfl, .int r, rfl, r, rfl, _, e3, ?_, ?_, ?_⟩
        · rw [List.length_map, List.length_replicate]
          have := (List.getElem?_eq_some_iff.mp hy).1
          exact small1000 (by simp only [List.length_cons, List.length_nil] at this; omega)
        · intro b o e
          have nb : b ≠ D := ne_of_none e nD
          rw [upd_ne nb]
          exact s3 _ _ e
        · rw [upd_same, List.replicate_succ', List.map_append]
          rfl
      · rintro H2 ⟨s3, e3⟩
        refine ⟨D, [true, true], rfl, .inl (.inl e3), true, rfl, iteF ?_⟩
        have e4 : H2 p = some (.lst [.int r, .int r]) := s3 _ _ upd_same
        refine ⟨.ref p, rfl, .int r, rfl, .int r, rfl, by show 2 ≤ sizeLine; decide, fun p2 np2 => ?_⟩
        have s4 := same_upd (o := .lst [.int r, .int r]) np2
        refine ⟨.list [.int r, .int r], .list [.int r, .int r], .lst (.inl (.inl (s4 _ _ e4))) (.cons (.int r) (.cons (.int r) .nil)), .lst (.inl (.inl upd_same)) (.cons (.int r) (.cons (.int r) .nil)), ?_, ?_, _, rfl, ?_⟩
        · rfl
        · rfl
        · have ed : PyData.eqv (.list [.int r, .int r]) (.list [.int r, .int r]) = true := SeqAt.eqv_refl _ rfl
          refine itNb ed ?_
          have s5 : Same H (upd H2 p2 (.lst [.int r, .int r])) := ((s1.trans s2).trans s3).trans s4
          refine ⟨.int t, rfl, .int a, rfl, .int r, rfl, t, a, r, rfl, T, a0, a1, r0, r1, ?_⟩
          refine ⟨.bl (home t a r), rfl, .bl (home t a r), .ty "bool", _, _, true, rfl, .ty "bool", .base (.bl _), kit_ty (by decide +kernel), true, rfl, iteF ?_⟩
          refine ⟨.int t, rfl, .int x, rfl, .int r, rfl, t, x, r, rfl, T, x0, x1, r0, r1, .bl (home t a r), rfl, home t a r, rfl, home t x r, ?_, true, rfl, iteF ?_⟩
          · rw [ho]
            rfl
          · exact ⟨s5, _, _, _, _, _, rfl⟩
    · rintro σ H1 ⟨s1, y3, y4, y5, y6, y7, rfl⟩
      exact q H1 s1
end
end EM
namespace EM
open PySem PySem.Spec PyProof.Rows L2
/-! max(o.values()) over a dict whose keys are tuples, its values whole numbers -/
def tMaxT (td : TE) : TE := fun σ H Q => td σ H fun x G => ∃ (a : Addr) (kvs : List (List Key × V)) (is : List Int), x = V.ref a ∧ G a = some (.dT kvs) ∧ kvs.map (·.2) = is.map V.int ∧ is ≠ [] ∧ ∀ m, m ∈ is → (∀ j ∈ is, j ≤ m) → Q (.int m) G
theorem vals_at {H : Hp} {kvs : List (List Key × V)} {xs : List (List Key × Addr × Value)} (r : KT H kvs xs) : ∀ {i : Nat} {y : List Key × Addr × Value}, xs[i]? = some y → ∃ z, kvs[i]? = some z ∧ RelV z.2 y.2.2 := by
  induction r with
  | nil =>
    intro i y e
    exact absurd e (by simp)
  | cons hd tl ih =>
    intro i y e
    rcases i with _ | i
    · cases (Option.some.inj (show some _ = some y from e))
      exact ⟨_, rfl, hd.2.2⟩
    · obtain ⟨z, z1, z2⟩ := ih (i := i) (y := y) (by simpa using e)
      exact ⟨z, by simpa using z1, z2⟩
theorem kt_len {H : Hp} {kvs : List (List Key × V)} {xs : List (List Key × Addr × Value)} (r : KT H kvs xs) : kvs.length = xs.length := Paired.length r
section
variable {X : Cx} {o : Expr} {p pos apos mpos : Pos} {td : TE}
theorem pe_maxT (calm : X.calm = true) (gl : Gl X "max") (free : X.mg "max" = none) (ho : PE X o td) (hb : attributeBase o "values" X.env (eval o X.env) = eval o X.env := by rfl) (hl : (apos.endLine == mpos.line) = true := by rfl)
    (hse : starEach [Expr.Call (.Attribute o "values" apos) [] [] mpos] X.env = [(false, eval (Expr.Call (.Attribute o "values" apos) [] [] mpos) X.env)] := by rfl) :
    PE X (.Call (.Name "max" p) [.Call (.Attribute o "values" apos) [] [] mpos] [] pos) (tMaxT td) := by
  refine ⟨fun pins s σ H Q I hq => ?_⟩
  refine wpAny_Call_Name_kw (ld_blt I gl free (u := .builtin "max") boot_max ?_ (by decide) (by decide))
  rw [hse]
  refine PySem.callWith_builtin1 (wpAny_Call_method0_late hb hl (thn (ho.run pins s σ H _ I hq) fun v s1 ⟨x, G, I1, rv, a, kvs, is, ex, ga, ev, ne, q⟩ => ?_))
  subst ex
  cases (show v = Value.ref a from rv)
  obtain ⟨_, sys, xs, kt, dof⟩ := dt_of I1.hok ga
  obtain ⟨es, ep, raw, size, items⟩ := Heap.DictOfH.raw dof
  have raw0 := raw
  obtain ⟨ob, hob, hex, hdata⟩ := raw0
  refine ⟨"dict", "dict.values", F.plainAttrs_dict, F.slot_dict_values, F.type_dict_values, ⟨ob, hob, hex.1⟩, fun b e => ?_, Calls.callWith_builtin rfl (PySem.evalArgs_none ?_)⟩
  · cases e
    exact ⟨ob, hob, hex.2.1⟩
  refine call_meetsIn F.slot_dict_values ⟨ob, hob, hex.1⟩ F.entry_dict_values (F.args_dict_values_1 _) (meets_dict_values_raw a sys) ⟨⟨es, ep, raw⟩, ?_⟩
  have keep : ∀ b u, s1.heap.get? b = some u → (s1.heap.push { cls := .type "dict_values", data := .fields #[.ref a] }).get? b = some u := fun b u e => Heap.get?_push_of_some _ e
  have raw1 : (s1.heap.push { cls := .type "dict_values", data := .fields #[.ref a] }).DictRaw a es ep := raw.at fun u e => keep a u e
  have len : es.size = is.length := by
    have e1 := congrArg List.length ev
    rw [List.length_map, List.length_map] at e1
    rw [size, ← kt_len kt, e1]
  have some1 : 0 < es.size := by
    rw [len]
    exact List.length_pos_iff.mpr ne
  have hval : ∀ (i : Nat) (v : Value), (∃ hi : i < es.size, v = es[i].val) → ∃ t, v = Value.int (is.getD i 0) t := fun i v ⟨hi, hv⟩ => by
    obtain ⟨y, hy, _, hy2, _⟩ := items i hi
    obtain ⟨z, hz, hz2⟩ := vals_at kt hy
    have e1 : (kvs.map (·.2))[i]? = some z.2 := by rw [List.getElem?_map, hz]; rfl
    rw [ev, List.getElem?_map] at e1
    obtain ⟨j, hj, e2⟩ := Option.map_eq_some_iff.mp e1
    rw [← e2] at hz2
    obtain ⟨t, e3⟩ := hz2
    refine ⟨t, ?_⟩
    rw [hv, hy2, e3, List.getD_eq_getElem?_getD, hj]
    rfl
  refine call_max_walk (wpAny_pyIter_values_raw (v := s1.heap.objs.size) (d := a) ⟨_, Heap.get?_push_size _ rfl, rfl, rfl⟩ raw1 ?_)
  have alt : a < s1.heap.objs.size := Heap.lt_size hob
  have grown : (s1.heap.push { cls := .type "dict_values", data := .fields #[.ref a] }).objs.size = s1.heap.objs.size + 1 := Heap.size_push _ _
  refine ⟨_, _, _, _, _, _, _, rfl, Walks.rawValues (A := X.A.in1) (I.ok.hd calm) (s1.heap.push { cls := .type "dict_values", data := .fields #[.ref a] }).objs.size a (fun z => absurd alt (by rw [z, grown]; exact Nat.not_lt.mpr (Nat.le_succ _))) es ep,
    ⟨⟨_, Heap.get?_push_size _ rfl, rfl, rfl⟩, raw1.at fun u e => Heap.get?_push_of_some _ e⟩, fun b hb => ?_, some1, CmpOf.ints_gt (fun i => is.getD i 0) hval, fun v h' tk hP hk => ?_⟩
  · show b < ((s1.heap.push _).push _).objs.size
    rw [Heap.size_push, Heap.size_push]
    rw [grown] at hb
    rcases List.mem_cons.mp hb with e | hb
    · rw [e]
      exact Nat.lt_succ_self _
    · rw [show b = a from List.mem_singleton.mp hb]
      exact Nat.lt_succ_of_lt (Nat.lt_succ_of_lt alt)
  · obtain ⟨t, rfl⟩ := hval _ v hP
    obtain ⟨b1, b2⟩ := argBest_gt (fun i => is.getD i 0) (es.size - 1)
    refine ⟨.int _, G, I1.kept (t' := tk) fun b u e => hk b u (fun hm => ?_) (Heap.get?_push_of_some _ (keep b u e)), ⟨t, rfl⟩, q _ ?_ fun j hj => ?_⟩
    · have e1 : b = (s1.heap.push { cls := .type "dict_values", data := .fields #[.ref a] }).objs.size := List.mem_singleton.mp hm
      have e2 := Heap.lt_size e
      rw [e1, grown] at e2
      exact absurd e2 (Nat.not_lt.mpr (Nat.le_succ _))
    · have hlt : argBest (fun i j => decide (is.getD i 0 > is.getD j 0)) (es.size - 1) < is.length := by omega
      rw [List.getD_eq_getElem?_getD, List.getElem?_eq_getElem hlt]
      exact List.getElem_mem hlt
    · obtain ⟨i, hi, e⟩ := List.mem_iff_getElem.mp hj
      have e2 : is.getD i 0 = j := by
        rw [List.getD_eq_getElem?_getD, List.getElem?_eq_getElem hi, ← e]
        rfl
      rw [← e2]
      exact b2 i (by omega)
end
end EM
namespace EM
open PySem PySem.Spec PyProof.Rows L2
/-! ### lists side by side -/
inductive All2 {α β : Type} (R : α → β → Prop) : List α → List β → Prop where
  | nil : All2 R [] []
  | cons {a : α} {b : β} {as : List α} {bs : List β} : R a b → All2 R as bs → All2 R (a :: as) (b :: bs)
section
variable {α β : Type} {R S : α → β → Prop}
theorem All2.len {as : List α} {bs : List β} (h : All2 R as bs) : as.length = bs.length := by
  induction h with
  | nil => rfl
  | cons _ _ ih => rw [List.length_cons, List.length_cons, ih]
theorem All2.mono {as : List α} {bs : List β} (h : All2 R as bs) (k : ∀ a b, R a b → S a b) : All2 S as bs := by
  induction h with
  | nil => exact .nil
  | cons h _ ih => exact .cons (k _ _ h) ih
theorem All2.app {as as' : List α} {bs bs' : List β} (h : All2 R as bs) (h' : All2 R as' bs') : All2 R (as ++ as') (bs ++ bs') := by
  induction h with
  | nil => exact h'
  | cons h _ ih => exact .cons h ih
theorem All2.snoc {as : List α} {bs : List β} {a : α} {b : β} (h : All2 R as bs) (r : R a b) : All2 R (as ++ [a]) (bs ++ [b]) := h.app (.cons r .nil)
theorem All2.at {as : List α} {bs : List β} (h : All2 R as bs) : ∀ {i : Nat} {a : α}, as[i]? = some a → ∃ b, bs[i]? = some b ∧ R a b := by
  induction h with
  | nil =>
    intro i a e
    exact absurd e (by simp)
  | cons h _ ih =>
    intro i a e
    rcases i with _ | i
    · cases (Option.some.inj (show some _ = some a from e))
      exact ⟨_, rfl, h⟩
    · exact ih (i := i) (by simpa using e)
theorem All2.at' {as : List α} {bs : List β} (h : All2 R as bs) : ∀ {i : Nat} {b : β}, bs[i]? = some b → ∃ a, as[i]? = some a ∧ R a b := by
  induction h with
  | nil =>
    intro i a e
    exact absurd e (by simp)
  | cons h _ ih =>
    intro i a e
    rcases i with _ | i
    · cases (Option.some.inj (show some _ = some a from e))
      exact ⟨_, rfl, h⟩
    · exact ih (i := i) (by simpa using e)
end
/-! ### a plan as it stands in memory -/
def PairAt (H : Hp) (v : V) (p : Int × Int) : Prop := ∃ q, v = .ref q ∧ H q = some (.tup [.int p.1, .int p.2])
def RowAt (H : Hp) (v : V) (row : List (Int × Int)) : Prop := ∃ q vs, v = .ref q ∧ H q = some (.lst vs) ∧ All2 (PairAt H) vs row
def PlanAt (H : Hp) (a : Addr) (pl : List (List (Int × Int))) : Prop := ∃ vs, H a = some (.lst vs) ∧ All2 (RowAt H) vs pl
theorem PairAt.mono {H H' : Hp} {v : V} {p : Int × Int} (s : Same H H') (h : PairAt H v p) : PairAt H' v p := by
  obtain ⟨q, e, h⟩ := h
  exact ⟨q, e, s _ _ h⟩
theorem RowAt.mono {H H' : Hp} {v : V} {row : List (Int × Int)} (s : Same H H') (h : RowAt H v row) : RowAt H' v row := by
  obtain ⟨q, vs, e, h, k⟩ := h
  exact ⟨q, vs, e, s _ _ h, k.mono fun _ _ => PairAt.mono s⟩
theorem PlanAt.mono {H H' : Hp} {a : Addr} {pl : List (List (Int × Int))} (s : Same H H') (h : PlanAt H a pl) : PlanAt H' a pl := by
  obtain ⟨vs, h, k⟩ := h
  exact ⟨vs, s _ _ h, k.mono fun _ _ => RowAt.mono s⟩
/-- the heap without what stands at F -/
def del (H : Hp) (F : Addr) : Hp := fun b => if b = F then none else H b
theorem del_ne {H : Hp} {F b : Addr} (h : b ≠ F) : del H F b = H b := by unfold del; rw [if_neg h]
theorem del_le (H : Hp) (F : Addr) : Same (del H F) H := fun b o e => by
  unfold del at e
  by_cases h : b = F
  · rw [if_pos h] at e
    cases e
  · rw [if_neg h] at e
    exact e
theorem del_upd (H : Hp) (F : Addr) (o : HO) : Same (del H F) (upd H F o) := fun b u e => by
  by_cases h : b = F
  · rw [del, if_pos h] at e
    cases e
  · rw [upd_ne h]
    rw [del_ne h] at e
    exact e
theorem del_upd' (H : Hp) (F : Addr) (o : HO) : Same (del H F) (del (upd H F o) F) := fun b u e => by
  by_cases h : b = F
  · rw [del, if_pos h] at e
    cases e
  · rw [del_ne h, upd_ne h]
    rw [del_ne h] at e
    exact e
theorem del_same {H H' : Hp} (F : Addr) (s : Same H H') : Same (del H F) (del H' F) := fun b u e => by
  by_cases h : b = F
  · rw [del, if_pos h] at e
    cases e
  · rw [del_ne h] at e
    rw [del_ne h]
    exact s _ _ e
theorem PairAt.del {H : Hp} {F : Addr} {xs : List V} {v : V} {p : Int × Int} (hF : H F = some (.lst xs)) (h : PairAt H v p) : PairAt (del H F) v p := by
  obtain ⟨q, e, h⟩ := h
  have n : q ≠ F := fun z => by
    rw [z, hF] at h
    cases h
  exact ⟨q, e, by rw [del_ne n]; exact h⟩
theorem PairAt.upd {H : Hp} {F : Addr} {xs : List V} {o : HO} {v : V} {p : Int × Int} (hF : H F = some (.lst xs)) (h : PairAt H v p) : PairAt (upd H F o) v p :=
  (h.del hF).mono (del_upd H F o)
/-! ### the told plan, as lists -/
def rowOf (t r : Int) (n : Nat) : List (Int × Int) := ((List.range n).filter fun (a : Nat) => home t (a : Int) r).map fun (a : Nat) => ((a : Int), opp t (a : Int) r)
def planOf (t : Int) (n : Nat) : List (List (Int × Int)) := (List.range n).map fun (r : Nat) => rowOf t (r : Int) t.toNat
theorem rowOf_succ (t r : Int) (n : Nat) : rowOf t r (n + 1) = rowOf t r n ++ if home t (n : Int) r = true then [((n : Int), opp t (n : Int) r)] else [] := by
  unfold rowOf
  rw [List.range_succ, List.filter_append, List.map_append]
  congr 1
  cases h : home t (n : Int) r <;> simp [h]
theorem planOf_succ (t : Int) (n : Nat) : planOf t (n + 1) = planOf t n ++ [rowOf t (n : Int) t.toNat] := by
  unfold planOf
  rw [List.range_succ, List.map_append]
  rfl
theorem rowOf_len (t r : Int) (n : Nat) : (rowOf t r n).length ≤ n := by
  unfold rowOf
  rw [List.length_map]
  exact Nat.le_trans (List.length_filter_le _ _) (by rw [List.length_range]; exact Nat.le_refl _)
theorem planOf_len (t : Int) (n : Nat) : (planOf t n).length = n := by
  unfold planOf
  rw [List.length_map, List.length_range]
abbrev tPlan : Stmt := topS 23
theorem scPlan : FnScope ["_law_teams_here", "_law_found", "_law_number", "_law_pairs", "_law_team"] ["_law_teams_here"] (defScope tPlan) := ⟨rfl, rfl, rfl, by decide +kernel, rfl, by decide +kernel, by decide +kernel⟩
section
variable {P : Program} {w : World} {K : PySem.W.Frag} {mg : Str → Option Value} {base : Heap}
def spPlan : Sp := fun vs H Q _ => ∃ t : Int, vs = [.int t] ∧ TOk t ∧ t ≤ 900 ∧ ∀ H' p, Same H H' → PlanAt H' p (planOf t (t - 1).toNat) → Q (.ref p) H'
theorem fn_plan (d : DefAt K mg "_law_plan" tPlan ["_law_teams_here"]) (N : Names mg) (F : Plans P w K mg base) : Fn P w K mg base "_law_plan" ["_law_teams_here"] 6 spPlan := by
  refine d.fn scPlan (fun vs H Q E h => ?_) (fun f cdv A outer s H vs Q E hr h => ?_)
  · obtain ⟨t, rfl, _⟩ := h
    rfl
  · obtain ⟨t, rfl, T, tb, q⟩ := h
    have := T.two
    refine ⟨_, pss_cons (ps_set (i := 1) scPlan.nd rfl (.inl rfl) (pe_lst pa_nil))
      (pss_cons (ps_for PassesOwn.never rfl (pi_range1 (by rfl) N.range (pa_cons (pe_op op_sub (pv 0) pe_int) pa_nil)) (pg_name (i := 2) scPlan.nd rfl (.inl rfl))
        (pss_cons (ps_set (i := 3) scPlan.nd rfl (.inl rfl) (pe_lst pa_nil))
        (pss_cons (ps_for PassesOwn.never rfl (pi_range1 (by rfl) N.range (pa_cons (pv 0) pa_nil)) (pg_name (i := 4) scPlan.nd rfl (.inl rfl))
          (pss_one (ps_if (pt_val (pe_f F.home hr (by decide) (by rfl) (pa_cons (pv 0) (pa_cons (pv 4) (pa_cons (pv 2) pa_nil)))))
            (pss_one (ps_expr (pe_bm PySem.F.plainAttrs_list PySem.F.slot_list_append PySem.F.type_list_append mt_append (pv 3) (pa_cons (pe_tup (pa_cons (pv 4) (pa_cons (pe_f F.opp hr (by decide) (by rfl) (pa_cons (pv 0) (pa_cons (pv 4) (pa_cons (pv 2) pa_nil)))) pa_nil))) pa_nil)))) pss_nil)))
        (pss_one (ps_expr (pe_bm PySem.F.plainAttrs_list PySem.F.slot_list_append PySem.F.type_list_append mt_append (pv 1) (pa_cons (pv 3) pa_nil)))))))
      (pss_one (ps_ret (pv 1)))), ?_⟩
    refine ⟨Nat.zero_le _, fun p np => ?_⟩
    have s0 := same_upd (o := .lst []) np
    refine ⟨.int t, rfl, t, 1, rfl, rfl, t - 1, rfl, by omega, by omega, for_range (n := (t - 1).toNat) (fun i σ H' => ∃ y2 y3 y4 vs, σ = [some (.int t), some (.ref p), y2, y3, y4] ∧ Same H H' ∧ H' p = some (.lst vs) ∧ All2 (RowAt (del H' p)) vs (planOf t i))
      ⟨none, none, none, [], rfl, s0, upd_same, .nil⟩ ?_ ?_⟩
    · rintro i σ H1 hi ⟨y2, y3, y4, vs, rfl, s1, e1, av⟩
      rw [Int.zero_add]
      refine ⟨Nat.zero_le _, fun l nl => ?_⟩
      have nlp : l ≠ p := (ne_of_none e1 nl).symm
      have s2 := same_upd (o := .lst []) nl
      refine ⟨.int t, rfl, t, rfl, by omega, by omega, for_range (n := t.toNat) (fun j σ H' => ∃ y4 ps, σ = [some (.int t), some (.ref p), some (.int (i : Int)), some (.ref l), y4] ∧ Same H1 H' ∧ H' l = some (.lst ps) ∧ All2 (PairAt H') ps (rowOf t (i : Int) j))
        ⟨y4, [], rfl, s2, upd_same, .nil⟩ ?_ ?_⟩
      · rintro j σ H2 hj ⟨z4, ps, rfl, s3, e3, ap⟩
        rw [Int.zero_add]
        refine ⟨.int t, rfl, .int (j : Int), rfl, .int (i : Int), rfl, t, (j : Int), (i : Int), rfl, T, by omega, by omega, by omega, by omega, home t (j : Int) (i : Int), rfl, ite2 (fun e => ?_) (fun e => ?_)⟩
        · refine ⟨.ref l, rfl, .inl ⟨rfl, _, SqL.of e3⟩, .int (j : Int), rfl, .int t, rfl, .int (j : Int), rfl, .int (i : Int), rfl, t, (j : Int), (i : Int), rfl, T, by omega, by omega, by omega, by omega, by show 2 ≤ sizeLine; decide, fun q' nq => ?_⟩
          have nql : l ≠ q' := ne_of_none e3 nq
          have s4 := same_upd (o := .tup [.int (j : Int), .int (opp t (j : Int) (i : Int))]) nq
          refine ⟨l, ps, .ref q', rfl, rfl, by rw [upd_ne nql]; exact e3, ?_, ?_⟩
          · have := ap.len
            have := rowOf_len t (i : Int) j
            exact small1000 (by omega)
          · refine ⟨_, _, rfl, fun b o eb => ?_, upd_same, ?_⟩
            · have nbl : b ≠ l := ne_of_none eb nl
              rw [upd_ne nbl]
              exact s4 _ _ (s3 _ _ eb)
            · rw [rowOf_succ, if_pos e]
              have e4 : upd H2 q' (.tup [.int (j : Int), .int (opp t (j : Int) (i : Int))]) l = some (.lst ps) := by rw [upd_ne nql]; exact e3
              exact (ap.mono fun _ _ h => (h.mono s4).upd e4).snoc ⟨q', rfl, by rw [upd_ne nql.symm, upd_same]⟩
        · exact ⟨_, ps, rfl, s3, e3, by rw [rowOf_succ, if_neg e, List.append_nil]; exact ap⟩
      · rintro σ H2 ⟨z4, ps, rfl, s3, e3, ap⟩
        have e4 : H2 p = some (.lst vs) := s3 _ _ e1
        refine ⟨.ref p, rfl, .inl ⟨rfl, _, SqL.of e4⟩, .ref l, rfl, p, vs, .ref l, rfl, rfl, e4, ?_, ?_⟩
        · have := av.len
          rw [planOf_len] at this
          exact small1000 (by omega)
        · refine ⟨_, _, _, _, rfl, fun b o eb => ?_, upd_same, ?_⟩
          · have nbp : b ≠ p := ne_of_none eb np
            rw [upd_ne nbp]
            exact s3 _ _ (s1 _ _ eb)
          · rw [planOf_succ]
            have sd : Same (del H1 p) (del (upd H2 p (.lst (vs ++ [.ref l]))) p) := (del_same p s3).trans (del_upd' H2 p _)
            refine (av.mono fun _ _ h => h.mono sd).snoc ⟨l, ps, rfl, by rw [del_ne nlp, upd_ne nlp]; exact e3, ap.mono fun _ _ h => (h.del e4).mono (del_upd' H2 p _)⟩
    · rintro σ H1 ⟨y2, y3, y4, vs, rfl, s1, e1, av⟩
      exact ⟨.ref p, rfl, q H1 p s1 ⟨vs, e1, av.mono fun _ _ h => h.mono (del_le H1 p)⟩⟩
end
end EM
namespace EM
open PySem PySem.Spec PyProof.Rows L2
/-- whether a team is in a pair -/
def hasB (c : Int) (p : Int × Int) : Bool := inV (.int c) [.int p.1, .int p.2]
def cntOf (row : List (Int × Int)) (c : Int) : Nat := (row.filter (hasB c)).length
theorem take_snoc {α : Type} {xs : List α} {i : Nat} {x : α} (h : xs[i]? = some x) : xs.take (i + 1) = xs.take i ++ [x] := by
  rw [List.take_add_one, h]
  rfl
abbrev tLone : Stmt := topS 24
abbrev tGood : Stmt := topS 25
theorem scLone : FnScope ["_law_plan_here", "_law_number", "_law_team", "_law_pair"] ["_law_plan_here", "_law_number", "_law_team"] (defScope tLone) := ⟨rfl, rfl, rfl, by decide +kernel, rfl, by decide +kernel, by decide +kernel⟩
section
variable {P : Program} {w : World} {K : PySem.W.Frag} {mg : Str → Option Value} {base : Heap}
def spLone : Sp := fun vs H Q _ => ∃ (a : Addr) (pl : List (List (Int × Int))) (n : Nat) (c : Int) (row : List (Int × Int)), vs = [.ref a, .int (n : Int), .int c] ∧ PlanAt H a pl ∧ pl[n]? = some row ∧ row.length ≤ 900 ∧
  ∀ H', Same H H' → Q (.bl (!decide (V.int ((cntOf row c : Nat) : Int) = V.int 1))) H'
theorem fn_lone (d : DefAt K mg "_law_lone" tLone ["_law_plan_here", "_law_number", "_law_team"]) (N : Names mg) : Fn P w K mg base "_law_lone" ["_law_plan_here", "_law_number", "_law_team"] 1 spLone := by
  refine d.fn scLone (fun vs H Q E h => ?_) (fun f cdv A outer s H vs Q E hr h => ?_)
  · obtain ⟨a, pl, n, c, row, rfl, _⟩ := h
    rfl
  · obtain ⟨a, pl, n, c, row, rfl, hP, hn, hl, q⟩ := h
    refine ⟨_, pss_one (ps_ret (pe_cmpR op_ne (pe_callB call_len_seq (by rfl) N.len PySem.boot_len (pa_cons
        (pe_lc (own := [("_law_pair", 3)]) (g := gName 3) (tt := tTest (tOp (rIn K false) (tVar 2) (tVar 3))) (te := tVar 3) rfl scLone.nd (pi_list (pe_ix ix_list (pv 0) (pv 1) (fun _ _ => rfl)))
          (blkOk_by (N := ["_law_plan_here", "_law_number", "_law_team", "_law_pair"]) (sc := defScope tLone) (by decide +kernel))
          (fun _ _ _ _ _ => pg_name (i := 3) scLone.nd rfl (Or.inl rfl)) (fun _ _ _ _ _ => pts_one (pt_cmpR op_in_seq (pv 2) (pv 3) (by rfl))) (fun _ _ _ _ _ => pv 3)) pa_nil)) pe_int (nomark _))), ?_⟩
    obtain ⟨vs, hv, av⟩ := hP
    obtain ⟨v, ev, q', us, rfl, hq, au⟩ := av.at' hn
    refine ⟨.ref a, rfl, .int (n : Int), rfl, a, vs, (n : Int), .ref q', rfl, rfl, SqL.of hv, atI_nat ev, q', rfl, ⟨_, SqL.of hq⟩, fun D nD => lc_list (K := K) (a := q') (xs := us)
      (fun i H' => Same H H' ∧ ∃ out, H' D = some (.lst out) ∧ out.length = cntOf (row.take i) c) ⟨same_upd nD, [], upd_same, rfl⟩ (fun i H' _ h => h.1.seq (SqL.of hq)) ?_ ?_⟩
    · rintro i x H1 hx ⟨s1, out, e1, ol⟩
      obtain ⟨p, hp, qp, rfl, hqp⟩ := au.at hx
      have hq1 := s1 _ _ hqp
      refine ⟨rfl, .int c, rfl, .ref qp, rfl, qp, _, rfl, .inr (SqT.of hq1), rfl, rfl, hasB c p, rfl, ?_⟩
      have cs : cntOf (row.take (i + 1)) c = cntOf (row.take i) c + if hasB c p = true then 1 else 0 := by
        unfold cntOf
        rw [take_snoc hp, List.filter_append, List.length_append]
        cases hb : hasB c p <;> simp [hb]
      have il : i < us.length := (List.getElem?_eq_some_iff.mp hx).1
      have := au.len
      have cl : cntOf (row.take i) c ≤ 900 := by
        unfold cntOf
        exact Nat.le_trans (List.length_filter_le _ _) (by rw [List.length_take]; omega)
      refine ite2 (fun e => ?_) (fun e => ?_)
      · refine ⟨.ref qp, rfl, out, e1, small1000 (by omega), fun b o eb => ?_, _, upd_same, ?_⟩
        · have nb : b ≠ D := ne_of_none eb nD
          rw [upd_ne nb]
          exact s1 _ _ eb
        · rw [cs, if_pos e, List.length_append, ol]
          rfl
      · refine ⟨s1, out, e1, ?_⟩
        rw [cs, if_neg e, ol]
        rfl
    · rintro H1 ⟨s1, out, e1, ol⟩
      have ef : cntOf (row.take us.length) c = cntOf row c := by rw [au.len, List.take_length]
      rw [ef] at ol
      refine ⟨D, out, rfl, .inl (SqL.of e1), rfl, ?_⟩
      have := q H1 s1
      rw [← ol] at this
      exact this
end
end EM
namespace EM
open PySem PySem.Spec PyProof.Rows L2
/-- two teams of a pair, the lesser count first, as a key -/
def keyOf (p : Int × Int) : List Key := [.inl (if p.2 < p.1 then p.2 else p.1), .inl (if p.2 > p.1 then p.2 else p.1)]
def keysOf (pl : List (List (Int × Int))) : List (List Key) := pl.flatten.map keyOf
def ones (ks : List (List Key)) : List (List Key × V) := ks.map fun k => (k, V.int 1)
theorem ones_none {ks : List (List Key)} {k : List Key} (h : k ∉ ks) : valV (ones ks) k = none := by
  induction ks with
  | nil => rfl
  | cons x r ih =>
    have h1 : ¬ x = k := fun e => h (e ▸ List.mem_cons_self)
    have h2 : k ∉ r := fun e => h (List.mem_cons_of_mem _ e)
    exact (valV_neg (p := (x, V.int 1)) (r := ones r) h1).trans (ih h2)
theorem ones_put {ks : List (List Key)} {k : List Key} (h : k ∉ ks) : putK (ones ks) k (V.int 1) = ones (ks ++ [k]) := by
  unfold putK
  rw [valV_any, ones_none h, if_neg (by simp)]
  unfold ones
  rw [List.map_append]
  rfl
theorem keys_take {pl : List (List (Int × Int))} {i : Nat} {row : List (Int × Int)} (h : pl[i]? = some row) : keysOf (pl.take (i + 1)) = keysOf (pl.take i) ++ row.map keyOf := by
  unfold keysOf
  rw [take_snoc h, List.flatten_append, List.map_append]
  simp
theorem keys_pre {pl : List (List (Int × Int))} {i : Nat} : ∃ r, keysOf pl = keysOf (pl.take i) ++ r := by
  refine ⟨keysOf (pl.drop i), ?_⟩
  unfold keysOf
  rw [← List.map_append, ← List.flatten_append, List.take_append_drop]
/-- the key of the next pair has not been met -/
theorem key_new {pl : List (List (Int × Int))} {i j : Nat} {row : List (Int × Int)} {p : Int × Int} (nd : (keysOf pl).Nodup) (hi : pl[i]? = some row) (hj : row[j]? = some p) : keyOf p ∉ keysOf (pl.take i) ++ (row.take j).map keyOf := by
  obtain ⟨r, e⟩ := keys_pre (pl := pl) (i := i + 1)
  rw [keys_take hi] at e
  have er : row = row.take j ++ p :: row.drop (j + 1) := by
    have := List.take_append_drop j row
    rw [List.drop_eq_getElem_cons (List.getElem?_eq_some_iff.mp hj).1] at this
    rw [(List.getElem?_eq_some_iff.mp hj).2] at this
    exact this.symm
  rw [er, List.map_append, List.map_cons] at e
  have e2 : keysOf pl = (keysOf (pl.take i) ++ (row.take j).map keyOf) ++ (keyOf p :: ((row.drop (j + 1)).map keyOf ++ r)) := by
    rw [e]
    simp [List.append_assoc]
  rw [e2] at nd
  intro hm
  exact (List.nodup_append.mp nd).2.2 _ hm _ List.mem_cons_self rfl
theorem keys_len_le {pl : List (List (Int × Int))} {i j : Nat} {row : List (Int × Int)} (hi : pl[i]? = some row) : (keysOf (pl.take i) ++ (row.take j).map keyOf).length ≤ (keysOf pl).length := by
  obtain ⟨r, e⟩ := keys_pre (pl := pl) (i := i + 1)
  rw [keys_take hi] at e
  rw [e]
  simp only [List.length_append, List.length_map, List.length_take]
  omega
section
variable {P : Program} {w : World} {K : PySem.W.Frag} {mg : Str → Option Value} {base : Heap}
theorem scGood : FnScope ["_law_teams_here", "_law_plan_here", "_law_number", "_law_table", "_law_pairs", "_law_one", "_law_other", "_law_two", "_law_team"] ["_law_teams_here", "_law_plan_here"] (defScope tGood) := ⟨rfl, rfl, rfl, by decide +kernel, rfl, by decide +kernel, by decide +kernel⟩
structure GoodPlan (t : Int) (pl : List (List (Int × Int))) : Prop where
  t2 : 2 ≤ t
  t9 : t ≤ 900
  few : pl.length ≤ 900
  row : ∀ row ∈ pl, row.length ≤ 900
  once : ∀ row ∈ pl, ∀ c : Nat, c < t.toNat → cntOf row (c : Int) = 1
  nd : (keysOf pl).Nodup
  all : (((keysOf pl).length : Nat) : Int) = t * (t - 1) / 2
  most : (keysOf pl).length ≤ 1000
def spGood : Sp := fun vs H Q _ => ∃ (t : Int) (a : Addr) (pl : List (List (Int × Int))), vs = [.int t, .ref a] ∧ PlanAt H a pl ∧ GoodPlan t pl ∧ ∀ H', Same H H' → Q (.bl true) H'
theorem fn_good (d : DefAt K mg "_law_good" tGood ["_law_teams_here", "_law_plan_here"]) (N : Names mg) (F : Fn P w K mg base "_law_lone" ["_law_plan_here", "_law_number", "_law_team"] 1 spLone) : Fn P w K mg base "_law_good" ["_law_teams_here", "_law_plan_here"] 2 spGood := by
  refine d.fn scGood (fun vs H Q E h => ?_) (fun f cdv A outer s H vs Q E hr h => ?_)
  · obtain ⟨t, a, pl, rfl, _⟩ := h
    rfl
  · obtain ⟨t, a, pl, rfl, hP, G, q⟩ := h
    have t2 := G.t2
    have t9 := G.t9
    refine ⟨_, pss_cons (ps_for PassesOwn.never rfl (pi_range1 (by rfl) N.range (pa_cons (pe_callB call_len_seq (by rfl) N.len PySem.boot_len (pa_cons (pv 1) pa_nil)) pa_nil)) (pg_name (i := 2) scGood.nd rfl (.inr rfl))
        (pss_one (ps_if (pt_val (pe_callB (cr_any rfl) (by rfl) N.any boot_any (pa_cons
          (pe_lc (own := [("_law_team", 8)]) (g := gName 8) (tt := tYes) rfl scGood.nd (pi_range1 (by rfl) N.range (pa_cons (pv 0) pa_nil))
            (blkOk_by (N := ["_law_teams_here", "_law_plan_here", "_law_number", "_law_table", "_law_pairs", "_law_one", "_law_other", "_law_two", "_law_team"]) (sc := defScope tGood) (by decide +kernel))
            (fun _ _ _ _ _ => pg_name (i := 8) scGood.nd rfl (Or.inl rfl)) (fun _ _ _ _ _ => pts_nil) (fun _ _ _ _ _ => pe_f F hr (by decide) (by rfl) (pa_cons (pv 1) (pa_cons (pv 2) (pa_cons (pv 8) pa_nil))))) pa_nil)))
          (pss_one ps_never) pss_nil)))
      (pss_cons (ps_set (i := 3) scGood.nd rfl (.inl rfl) pe_dnewT)
      (pss_cons (ps_for PassesOwn.never rfl (pi_list (pv 1)) (pg_name (i := 4) scGood.nd rfl (.inl rfl))
        (pss_one (ps_for PassesOwn.never rfl (pi_list (pv 4)) (pg_tup rfl (pgs_cons (pg_name (i := 5) scGood.nd rfl (.inl rfl)) (pgs_cons (pg_name (i := 6) scGood.nd rfl (.inl rfl)) pgs_nil)))
          (pss_cons (ps_set (i := 7) scGood.nd rfl (.inl rfl) (pe_tup (pa_cons (pe_callB (call_min2 rfl) (by rfl) N.min boot_min (pa_cons (pv 5) (pa_cons (pv 6) pa_nil))) (pa_cons (pe_callB (call_max2 rfl) (by rfl) N.max boot_max (pa_cons (pv 5) (pa_cons (pv 6) pa_nil))) pa_nil))))
          (pss_one (ps_dput (hu_of hr) (pv 3) (pv 7) (pe_op op_add (pe_dget2 (hu_of hr) (pv 3) (pv 7) pe_int ⟨rfl, rfl, rfl, rfl⟩) pe_int) rfl))))))
      (pss_one (ps_ret (pe_and (pe_cmpR op_eq (pe_callB call_len_dT (by rfl) N.len PySem.boot_len (pa_cons (pv 3) pa_nil)) (pe_op op_fdiv (pe_op op_mul (pv 0) (pe_op op_sub (pv 0) pe_int)) pe_int) (nomark _))
        (pe_one (pe_cmpR op_eq (pe_maxT rfl (by rfl) N.max (pv 3)) pe_int (nomark _)))))))), ?_⟩
    obtain ⟨vs, hv, av⟩ := id hP
    have vl := av.len
    have few := G.few
    refine ⟨.ref a, rfl, a, vs, rfl, .inl (SqL.of hv), _, rfl, by omega, by omega, for_range (n := (((vs.length : Nat) : Int)).toNat) (fun i σ H' => ∃ y2 y3 y4 y5 y6 y7, σ = [some (.int t), some (.ref a), y2, y3, y4, y5, y6, y7, none] ∧ Same H H')
      ⟨_, _, _, _, _, _, rfl, Same.refl H⟩ ?_ ?_⟩
    · rintro i σ H1 hi ⟨y2, y3, y4, y5, y6, y7, rfl, s1⟩
      rw [Int.zero_add]
      have hil : i < pl.length := by omega
      have hrow : pl[i]? = some pl[i] := List.getElem?_eq_getElem hil
      refine ⟨.int t, rfl, t, rfl, by omega, by omega, fun D nD => lc_range (lo := 0) (n := t.toNat) (fun j H' => Same H1 H' ∧ H' D = some (.lst ((List.replicate j false).map V.bl))) ⟨same_upd nD, upd_same⟩ ?_ ?_⟩
      · rintro j H2 hj ⟨s2, e2⟩
        rw [Int.zero_add]
        refine ⟨rfl, .ref a, rfl, .int (i : Int), rfl, .int (j : Int), rfl, a, pl, i, (j : Int), pl[i], rfl, hP.mono (s1.trans s2), hrow, G.row _ (List.getElem_mem hil), fun H3 s3 => ?_⟩
        refine ⟨_, s3 _ _ e2, ?_, fun b o eb => ?_, ?_⟩
        · rw [List.length_map, List.length_replicate]
          exact small1000 (by omega)
        · have nb : b ≠ D := ne_of_none eb nD
          rw [upd_ne nb]
          exact s3 _ _ (s2 _ _ eb)
        · rw [upd_same, List.replicate_succ', List.map_append, G.once _ (List.getElem_mem hil) j hj, decide_eq_true (show V.int ((1 : Nat) : Int) = V.int 1 from rfl)]
          rfl
      · rintro H2 ⟨s2, e2⟩
        refine ⟨D, List.replicate t.toNat false, rfl, SqL.of e2, false, ?_, iteF ⟨_, _, _, _, _, _, rfl, s1.trans s2⟩⟩
        congr 1
        rw [List.any_eq_false]
        intro x hx
        rw [(List.mem_replicate.mp hx).2]
        exact Bool.false_ne_true
    · rintro σ H1 ⟨y2, y3, y4, y5, y6, y7, rfl, s1⟩
      intro T nT
      have s2 := same_upd (o := .dT []) nT
      have hv2 := s2 _ _ (s1 _ _ hv)
      refine ⟨.ref a, rfl, a, rfl, ⟨_, SqL.of hv2⟩, for_list (K := K) (a := a) (xs := vs) (fun i σ H' => ∃ y2 y4 y5 y6 y7, σ = [some (.int t), some (.ref a), y2, some (.ref T), y4, y5, y6, y7, none] ∧ Same H1 H' ∧ H' T = some (.dT (ones (keysOf (pl.take i)))))
        ⟨_, _, _, _, _, rfl, s2, upd_same⟩ (fun i σ H' _ ⟨_, _, _, _, _, _, h, _⟩ => SqL.of (h _ _ (s1 _ _ hv))) ?_ ?_⟩
      · rintro i x σ H2 hx ⟨z2, z4, z5, z6, z7, rfl, s3, e3⟩
        obtain ⟨row, hrow, q', us, rfl, hq, au⟩ := av.at hx
        have hq2 := s3 _ _ (s1 _ _ hq)
        refine ⟨.ref q', rfl, q', rfl, ⟨_, SqL.of hq2⟩, for_list (K := K) (a := q') (xs := us) (fun j σ H' => ∃ y5 y6 y7, σ = [some (.int t), some (.ref a), z2, some (.ref T), some (.ref q'), y5, y6, y7, none] ∧ Same H1 H' ∧ H' T = some (.dT (ones (keysOf (pl.take i) ++ (row.take j).map keyOf))))
          ⟨_, _, _, rfl, s3, by rw [e3]; simp⟩ (fun j σ H' _ ⟨_, _, _, _, h, _⟩ => SqL.of (h _ _ (s1 _ _ hq))) ?_ ?_⟩
        · rintro j y σ H3 hy ⟨w5, w6, w7, rfl, s4, e4⟩
          obtain ⟨p, hp, qp, rfl, hqp⟩ := au.at hy
          have hq3 := s4 _ _ (s1 _ _ hqp)
          refine ⟨qp, _, rfl, SqT.of hq3, rfl, _, _, rfl, _, _, rfl, rfl, ?_⟩
          refine ⟨_, rfl, _, rfl, p.1, p.2, rfl, _, rfl, _, rfl, p.1, p.2, rfl, by show 2 ≤ sizeLine; decide, fun b nb => ?_⟩
          have nTb : T ≠ b := ne_of_none e4 nb
          have s5 := same_upd (o := .tup [.int (if p.2 < p.1 then p.2 else p.1), .int (if p.2 > p.1 then p.2 else p.1)]) nb
          have e5 := s5 _ _ e4
          have knew := key_new G.nd hrow hp
          have klen := keys_len_le (pl := pl) (j := j) hrow
          have kmost := G.most
          refine ⟨.ref T, rfl, T, rfl, .inr ⟨_, .inl e5⟩, .ref b, rfl, _, DGet.t (k := keyOf p) e5 upd_same, ?_⟩
          rw [ones_none knew]
          refine ⟨0, 1, rfl, rfl, .ref T, rfl, .ref b, rfl, T, _, rfl, DPut.t (k := keyOf p) e5 upd_same (by unfold ones; rw [List.length_map]; exact small1000 (by omega)), ?_⟩
          refine ⟨_, _, _, rfl, fun b' o eb => ?_, ?_⟩
          · have nbT : b' ≠ T := ne_of_none eb nT
            rw [upd_ne nbT]
            exact s5 _ _ (s4 _ _ eb)
          · rw [upd_same]
            show some (HO.dT (putK _ _ (V.int 1))) = _
            rw [ones_put knew, take_snoc hp, List.map_append, List.append_assoc]
            rfl
        · rintro σ H3 ⟨w5, w6, w7, rfl, s4, e4⟩
          refine ⟨_, _, _, _, _, rfl, s4, ?_⟩
          rw [e4, keys_take hrow, au.len, List.take_length]
      · rintro σ H2 ⟨z2, z4, z5, z6, z7, rfl, s3, e3⟩
        rw [vl, List.take_length] at e3
        have kl : (ones (keysOf pl)).length = (keysOf pl).length := by unfold ones; rw [List.length_map]
        refine ⟨.ref T, rfl, T, _, rfl, e3, .int t, rfl, .int t, rfl, t, 1, rfl, rfl, t, t - 1, rfl, rfl, .inl ⟨by omega, by omega⟩, t * (t - 1), 2, rfl, rfl, ⟨by decide, by decide⟩, rfl, true, ?_, iteT ?_⟩
        · show V.bl (decide (V.int (((ones (keysOf pl)).length : Nat) : Int) = V.int (t * (t - 1) / 2))) = V.bl true
          rw [kl, G.all, decide_eq_true rfl]
        · refine ⟨.ref T, rfl, T, _, (keysOf pl).map fun _ => 1, rfl, e3, ?_, ?_, fun m hm _ => ?_⟩
          · unfold ones
            rw [List.map_map, List.map_map]
            rfl
          · intro z
            have z1 := congrArg List.length z
            rw [List.length_map] at z1
            have ga := G.all
            rw [z1] at ga
            have : 1 ≤ t * (t - 1) / 2 := by
              have h1 : 2 ≤ t * (t - 1) := by
                have := Int.mul_le_mul (a := 2) (b := 1) (c := t) (d := t - 1) t2 (by omega) (by omega) (by omega)
                omega
              omega
            rw [← ga] at this
            exact absurd this (by decide)
          · obtain ⟨_, _, rfl⟩ := List.mem_map.mp hm
            refine ⟨rfl, ?_⟩
            show Q (V.bl (decide (V.int 1 = V.int 1))) H2
            rw [decide_eq_true rfl]
            exact q H2 (s1.trans s3)
end
end EM
namespace EM
open PySem PySem.Spec PyProof.Rows L2
def onceB (t : Nat) : Bool := (List.range (t - 1)).all fun (r : Nat) => (List.range t).all fun (c : Nat) => cntOf (rowOf (t : Int) (r : Int) t) (c : Int) == 1
def countB (t : Nat) : Bool := ((List.range (t - 1)).map fun (r : Nat) => (rowOf (t : Int) (r : Int) t).length).sum == t * (t - 1) / 2
theorem small_once : ((List.range 12).all fun j => onceB (2 * j + 2)) = true := by decide +kernel
theorem small_count : ((List.range 12).all fun j => countB (2 * j + 2)) = true := by decide +kernel
theorem mem_row {t r : Int} {n : Nat} {p : Int × Int} (h : p ∈ rowOf t r n) : 0 ≤ p.1 ∧ p.1 < n ∧ home t p.1 r = true ∧ p.2 = opp t p.1 r := by
  unfold rowOf at h
  obtain ⟨a, ha, rfl⟩ := List.mem_map.mp h
  obtain ⟨h1, h2⟩ := List.mem_filter.mp ha
  have := List.mem_range.mp h1
  exact ⟨Int.natCast_nonneg a, Int.ofNat_lt.mpr this, h2, rfl⟩
theorem inl_eq {x y : Int} (h : (Sum.inl x : Key) = Sum.inl y) : x = y := Sum.inl.inj h
theorem key_eq {p q : Int × Int} (h : keyOf p = keyOf q) : (p.1 = q.1 ∧ p.2 = q.2) ∨ (p.1 = q.2 ∧ p.2 = q.1) := by
  unfold keyOf at h
  have h1 := inl_eq (List.cons.inj h).1
  have h2 := inl_eq (List.cons.inj (List.cons.inj h).2).1
  by_cases a : p.2 < p.1 <;> by_cases b : q.2 < q.1
  · rw [if_pos a, if_pos b] at h1
    rw [if_neg (by omega), if_neg (by omega)] at h2
    exact .inl ⟨h2, h1⟩
  · rw [if_pos a, if_neg b] at h1
    by_cases c : q.2 > q.1
    · rw [if_neg (by omega), if_pos c] at h2
      exact .inr ⟨h2, h1⟩
    · rw [if_neg (by omega), if_neg c] at h2
      omega
  · rw [if_neg a, if_pos b] at h1
    by_cases c : p.2 > p.1
    · rw [if_pos c, if_neg (by omega)] at h2
      exact .inr ⟨h1, h2⟩
    · rw [if_neg c, if_neg (by omega)] at h2
      omega
  · rw [if_neg a, if_neg b] at h1
    by_cases c : p.2 > p.1 <;> by_cases e : q.2 > q.1
    · rw [if_pos c, if_pos e] at h2
      exact .inl ⟨h1, h2⟩
    · rw [if_pos c, if_neg e] at h2
      omega
    · rw [if_neg c, if_pos e] at h2
      omega
    · rw [if_neg c, if_neg e] at h2
      omega
theorem pairs_apart {t r r' : Int} (T : TOk t) (r0 : 0 ≤ r) (r1 : r < t - 1) (r0' : 0 ≤ r') (r1' : r' < t - 1) {p q : Int × Int} (hp : p ∈ rowOf t r t.toNat) (hq : q ∈ rowOf t r' t.toNat) (e : keyOf p = keyOf q) : r = r' ∧ p.1 = q.1 := by
  have t2 := T.two
  obtain ⟨a0, a1, ah, ao⟩ := mem_row hp
  obtain ⟨b0, b1, bh, bo⟩ := mem_row hq
  have a2 : p.1 < t := by omega
  have b2 : q.1 < t := by omega
  have ra := rnd_opp T a0 a2 r0 r1
  have rb := rnd_opp T b0 b2 r0' r1'
  rw [← ao] at ra
  rw [← bo] at rb
  rcases key_eq e with ⟨h1, h2⟩ | ⟨h1, h2⟩
  · refine ⟨?_, h1⟩
    rw [← ra.1, ← rb.1, h1, h2]
  · have er : r = r' := by rw [← ra.1, ← rb.2, h1, h2]
    subst er
    have := home_opp T a0 a2 r0 r1
    rw [← ao, h2, bh, ah] at this
    cases this
theorem row_nodup {t r : Int} (T : TOk t) (r0 : 0 ≤ r) (r1 : r < t - 1) : ((rowOf t r t.toNat).map keyOf).Nodup := by
  have nd : ((rowOf t r t.toNat).map (·.1)).Nodup := by
    unfold rowOf
    rw [List.map_map]
    refine List.Pairwise.map _ (fun (a b : Nat) (h : a ≠ b) => ?_) ((List.nodup_range (n := t.toNat)).filter _)
    show (a : Int) ≠ (b : Int)
    omega
  have h1 : (rowOf t r t.toNat).Pairwise fun p q => p.1 ≠ q.1 := List.pairwise_map.mp nd
  refine List.pairwise_map.mpr (h1.imp_of_mem fun {p q} hp hq ne e => ne (pairs_apart T r0 r1 r0 r1 hp hq e).2)
theorem keys_nodup {t : Int} (T : TOk t) : (keysOf (planOf t (t - 1).toNat)).Nodup := by
  have t2 := T.two
  unfold keysOf planOf
  rw [List.map_flatten]
  refine List.pairwise_flatten.mpr ⟨fun l hl => ?_, ?_⟩
  · obtain ⟨row, hr, rfl⟩ := List.mem_map.mp hl
    obtain ⟨r, hm, rfl⟩ := List.mem_map.mp hr
    have := List.mem_range.mp hm
    exact row_nodup T (by omega) (by omega)
  · rw [List.map_map]
    refine List.pairwise_map.mpr ((List.nodup_range (n := (t - 1).toNat)).imp_of_mem fun {r r'} hr hr' ne => ?_)
    have h1 := List.mem_range.mp hr
    have h2 := List.mem_range.mp hr'
    intro x hx y hy e
    obtain ⟨p, hp, rfl⟩ := List.mem_map.mp hx
    obtain ⟨q, hq, rfl⟩ := List.mem_map.mp hy
    have := (pairs_apart T (by omega) (by omega) (by omega) (by omega) hp hq e).1
    omega
theorem sum_len {α β : Type} (f : β → List α) : ∀ l : List β, ((l.map f).flatten).length = (l.map fun b => (f b).length).sum
  | [] => rfl
  | b :: r => by
    rw [List.map_cons, List.flatten_cons, List.length_append, sum_len f r]
    rfl
theorem good_small {t : Int} (T : TOk t) (h : t ≤ 24) : GoodPlan t (planOf t (t - 1).toNat) := by
  have t2 := T.two
  have te := T.even
  obtain ⟨j, hj, rfl⟩ : ∃ j : Nat, j < 12 ∧ t = ((2 * j + 2 : Nat) : Int) := ⟨(t / 2 - 1).toNat, by omega, by omega⟩
  have h1 := List.all_eq_true.mp small_once j (List.mem_range.mpr hj)
  have h2 := List.all_eq_true.mp small_count j (List.mem_range.mpr hj)
  have en : (((2 * j + 2 : Nat) : Int) - 1).toNat = 2 * j + 2 - 1 := by omega
  have len : (keysOf (planOf ((2 * j + 2 : Nat) : Int) (((2 * j + 2 : Nat) : Int) - 1).toNat)).length = (2 * j + 2) * (2 * j + 2 - 1) / 2 := by
    rw [en]
    unfold keysOf planOf
    rw [List.length_map, sum_len]
    exact eq_of_beq h2
  refine ⟨t2, by omega, by rw [planOf_len]; omega, fun row hr => ?_, fun row hr c hc => ?_, keys_nodup T, ?_, ?_⟩
  · unfold planOf at hr
    obtain ⟨r, hr, rfl⟩ := List.mem_map.mp hr
    have := rowOf_len ((2 * j + 2 : Nat) : Int) (r : Int) ((2 * j + 2 : Nat) : Int).toNat
    omega
  · unfold planOf at hr
    obtain ⟨r, hm, rfl⟩ := List.mem_map.mp hr
    rw [en] at hm
    have := List.all_eq_true.mp (List.all_eq_true.mp h1 r hm) c (List.mem_range.mpr hc)
    exact eq_of_beq this
  · rw [len]
    have : (((2 * j + 2 : Nat) : Int) - 1) = ((2 * j + 2 - 1 : Nat) : Int) := by omega
    rw [this, ← Int.natCast_mul]
    exact Int.natCast_ediv _ _
  · rw [len]
    have h3 : ((List.range 12).all fun j => decide ((2 * j + 2) * (2 * j + 2 - 1) / 2 ≤ 1000)) = true := by decide
    have := List.all_eq_true.mp h3 j (List.mem_range.mpr hj)
    exact of_decide_eq_true this
end EM
namespace EM
open PySem PySem.Spec PyProof.Rows L2
abbrev tLaw : Stmt := topS 29
theorem cut63 {xs : List V} (h : xs.length ≤ 63) : cutV xs none (some 63) = xs := by
  unfold cutV
  have e : HT.sIx xs.length xs.length (some 63) = xs.length := by
    rw [show (some (63 : Int)) = some ((63 : Nat) : Int) from rfl, HT.sIx_nat]
    omega
  rw [e, HT.sIx_none]
  exact List.take_length
theorem turns63 : ∀ n : Nat, n < 64 → (Builtin.Range.small 0 (n : Int) (1 + (n : Int) / 8) = true ∧ Builtin.Range.rangeSize 0 (n : Int) (1 + (n : Int) / 8) = (((Builtin.Range.rangeSize 0 (n : Int) (1 + (n : Int) / 8)).toNat : Nat) : Int) ∧
    ∀ x : Nat, x < (Builtin.Range.rangeSize 0 (n : Int) (1 + (n : Int) / 8)).toNat → (x : Int) * (1 + (n : Int) / 8) ≤ 80) := by
  decide +kernel
theorem TOk.small {t : Int} (T : TOk t) (h : t ≤ 2 + 2 * 10 ^ 40) : t.natAbs < 2 ^ 200 := by
  have := T.two
  omega
theorem all_rep (n : Nat) : (List.replicate n true).all id = true := by
  rw [List.all_eq_true]
  intro x hx
  rw [(List.mem_replicate.mp hx).2]
  rfl
section
variable {P : Program} {w : World} {K : PySem.W.Frag} {mg : Str → Option Value} {base : Heap}
theorem scLaw : FnScope ["_law_script", "_law_k", "_law_teams_here", "_law_drawn", "_law_team", "_law_number", "_law_other", "_law_few", "_law_some"] ["_law_script"] (defScope tLaw) := ⟨rfl, rfl, rfl, by decide +kernel, rfl, by decide +kernel, by decide +kernel⟩
structure Parts (P : Program) (w : World) (K : PySem.W.Frag) (mg : Str → Option Value) (base : Heap) : Prop where
  pl : Plans P w K mg base
  cell : Fn P w K mg base "_law_cell_at" ["_law_script", "_law_k"] 1 (spCell K)
  draw : Fn P w K mg base "_law_draw" ["_law_cell", "_law_k", "_law_many"] 1 spDraw
  value : Fn P w K mg base "_law_value" ["_law_cell", "_law_k", "_law_limit"] 2 spValue
  teams : Fn P w K mg base "_law_teams" ["_law_script", "_law_k"] 3 (spCount K)
  plan : Fn P w K mg base "_law_plan" ["_law_teams_here"] 6 spPlan
  good : Fn P w K mg base "_law_good" ["_law_teams_here", "_law_plan_here"] 2 spGood
  right : Fn P w K mg base "_law_right" ["_law_teams_here", "_law_team", "_law_number"] 6 spRight
  two : Fn P w K mg base "_law_two_right" ["_law_teams_here", "_law_one", "_law_other"] 6 spTwo
def spLaw (K : PySem.W.Frag) : Sp := fun vs H Q _ => ∃ (a : Addr) (ns : List Int), vs = [.ref a] ∧ SqL K H a (ns.map V.int) ∧ ns.length ≤ 63 ∧ (∀ n ∈ ns, bits20 n) ∧ ∀ H', Q (.bl true) H'
theorem ok_law {f : Addr} {fd : FuncData} (D : Fun K "law" "law" tLaw f fd) (N : Names mg) (F : Parts P w K mg base) : FnOk P w K mg base CX0 7 f fd ["_law_script"] (spLaw K) := by
  refine D.ok scLaw (fun vs H Q E h => ?_) (fun cdv A outer s H vs Q E hr h => ?_)
  · obtain ⟨a, ns, rfl, _⟩ := h
    rfl
  · obtain ⟨a, ns, rfl, hS, hlen, hbits, q⟩ := h
    refine ⟨_, pss_cons (ps_set (i := 0) scLaw.nd rfl (.inl rfl) (pe_slice sl_list (pv 0) po_none (po_some pe_int)))
      (pss_cons (ps_for PassesOwn.never rfl (pi_range3 (by rfl) N.range (pa_cons pe_int (pa_cons (pe_callB call_len_seq (by rfl) N.len PySem.boot_len (pa_cons (pv 0) pa_nil)) (pa_cons (pe_op op_add pe_int (pe_op op_fdiv (pe_callB call_len_seq (by rfl) N.len PySem.boot_len (pa_cons (pv 0) pa_nil)) pe_int)) pa_nil)))) (pg_name (i := 1) scLaw.nd rfl (.inl rfl))
        (pss_cons (ps_par (i := 2) (j := 3) rfl scLaw.nd rfl rfl (by decide) rfl rfl (pa_cons (pe_f F.teams hr (by decide) (by rfl) (pa_cons (pv 0) (pa_cons (pv 1) pa_nil)))
            (pa_cons (pe_f F.value hr (by decide) (by rfl) (pa_cons (pe_f F.cell hr (by decide) (by rfl) (pa_cons (pv 0) (pa_cons (pe_op op_add (pv 1) pe_int) pa_nil))) (pa_cons (pv 1) (pa_cons pe_int pa_nil)))) pa_nil)) (by rfl))
        (pss_one (ps_for PassesOwn.never rfl (pi_tup (pe_tup (pa_cons pe_int (pa_cons pe_int (pa_cons (pe_op op_sub (pv 2) pe_int) (pa_cons (pe_op op_sub (pv 2) pe_int) (pa_cons (pe_op op_mod (pv 3) (pv 2)) (pa_cons (pe_op op_mod (pe_op op_fdiv (pv 3) pe_int) (pv 2)) pa_nil)))))))) (pg_name (i := 4) scLaw.nd rfl (.inr rfl))
          (pss_cons (ps_for PassesOwn.never rfl (pi_tup (pe_tup (pa_cons pe_int (pa_cons (pe_op op_sub (pv 2) pe_int) (pa_cons (pe_op op_mod (pe_op op_fdiv (pv 3) pe_int) (pe_op op_sub (pv 2) pe_int)) (pa_cons (pe_op op_mod (pe_op op_mod (pv 3) (pv 2)) (pe_op op_sub (pv 2) pe_int)) pa_nil)))))) (pg_name (i := 5) scLaw.nd rfl (.inl rfl))
            (pss_one (ps_if (pt_not (pt_val (pe_f F.right hr (by decide) (by rfl) (pa_cons (pv 2) (pa_cons (pv 4) (pa_cons (pv 5) pa_nil)))))) (pss_one ps_never) pss_nil)))
          (pss_cons (ps_set (i := 6) scLaw.nd rfl (.inl rfl) (pe_op op_mod (pe_op op_add (pe_op op_add (pv 4) pe_int) (pe_op op_mod (pe_op op_fdiv (pv 3) pe_int) (pe_op op_sub (pv 2) pe_int))) (pv 2)))
          (pss_one (ps_if (PW.pt (pw_or (pt_not (pt_val (pe_f F.two hr (by decide) (by rfl) (pa_cons (pv 2) (pa_cons (pv 4) (pa_cons (pv 6) pa_nil)))))) (pw_or1 (pt_not (pt_val (pe_f F.two hr (by decide) (by rfl) (pa_cons (pv 2) (pa_cons (pv 6) (pa_cons (pv 4) pa_nil))))))))) (pss_one ps_never) pss_nil))))))))
      (pss_cons (ps_set (i := 7) scLaw.nd rfl (.inr rfl) (pe_op op_add pe_int (pe_op op_mul pe_int (pe_f F.draw hr (by decide) (by rfl) (pa_cons (pe_op op_mod (pe_f F.cell hr (by decide) (by rfl) (pa_cons (pv 0) (pa_cons pe_int pa_nil))) (pe_op op_pow pe_int pe_int)) (pa_cons pe_int (pa_cons pe_int pa_nil)))))))
      (pss_cons (ps_if (pt_not (pt_val (pe_callB (cr_all rfl) (by rfl) N.all boot_all (pa_cons
          (pe_lc (own := [("_law_some", 8)]) (g := gName 8) (tt := tYes) rfl scLaw.nd (pi_tup (pe_tup (pa_cons pe_int (pa_cons pe_int (pa_cons (pv 7) pa_nil)))))
            (blkOk_by (N := ["_law_script", "_law_k", "_law_teams_here", "_law_drawn", "_law_team", "_law_number", "_law_other", "_law_few", "_law_some"]) (sc := defScope tLaw) (by decide +kernel))
            (fun _ _ _ _ _ => pg_name (i := 8) scLaw.nd rfl (Or.inl rfl)) (fun _ _ _ _ _ => pts_nil) (fun _ _ _ _ _ => pe_f F.good hr (by decide) (by rfl) (pa_cons (pv 8) (pa_cons (pe_f F.plan hr (by decide) (by rfl) (pa_cons (pv 8) pa_nil)) pa_nil)))) pa_nil)))) (pss_one ps_never) pss_nil)
      (pss_cons (ps_for PassesOwn.never rfl (pi_range1 (by rfl) N.range (pa_cons (pv 7) pa_nil)) (pg_name (i := 4) scLaw.nd rfl (.inr rfl))
        (pss_one (ps_if (pt_not (pt_val (pe_callB (cr_all rfl) (by rfl) N.all boot_all (pa_cons
          (pe_lc (own := [("_law_number", 5)]) (g := gName 5) (tt := tYes) rfl scLaw.nd (pi_range1 (by rfl) N.range (pa_cons (pe_op op_sub (pv 7) pe_int) pa_nil))
            (blkOk_by (N := ["_law_script", "_law_k", "_law_teams_here", "_law_drawn", "_law_team", "_law_number", "_law_other", "_law_few", "_law_some"]) (sc := defScope tLaw) (by decide +kernel))
            (fun _ _ _ _ _ => pg_name (i := 5) scLaw.nd rfl (Or.inl rfl)) (fun _ _ _ _ _ => pts_nil) (fun _ _ _ _ _ => pe_f F.right hr (by decide) (by rfl) (pa_cons (pv 7) (pa_cons (pv 4) (pa_cons (pv 5) pa_nil))))) pa_nil)))) (pss_one ps_never) pss_nil)))
      (pss_one (ps_ret (pe_and (pe_cmpR op_eq (pe_f F.pl.opp hr (by decide) (by rfl) (pa_cons pe_int (pa_cons pe_int (pa_cons pe_int pa_nil)))) pe_int (nomark _))
        (pe_one (pe_cmpR op_eq (pe_f F.pl.rnd hr (by decide) (by rfl) (pa_cons pe_int (pa_cons pe_int (pa_cons pe_int pa_nil)))) pe_int (nomark _)))))))))), ?_⟩
    have hlen' : (ns.map V.int).length ≤ 63 := by rw [List.length_map]; exact hlen
    refine ⟨.ref a, rfl, 63, rfl, a, ns.map V.int, rfl, hS, fun p np => ?_⟩
    rw [cut63 hlen']
    have e0 : upd H p (.lst (ns.map V.int)) p = some (.lst (ns.map V.int)) := upd_same
    generalize upd H p (.lst (ns.map V.int)) = HB at e0
    have hB : ∀ H', Same HB H' → SqL K H' p (ns.map V.int) := fun H' s => SqL.of (s _ _ e0)
    have cb : ∀ c : Int, (c = 0 ∨ c ∈ ns) → bits20 c := fun c hc => by
      rcases hc with rfl | hc
      · show (0 : Int).natAbs.log2 ≤ _
        decide
      · exact hbits c hc
    have tn := turns63 (ns.map V.int).length (by omega)
    have c1 : 0 < 1 + (((ns.map V.int).length : Nat) : Int) / 8 ∧ 1 + (((ns.map V.int).length : Nat) : Int) / 8 < 9 := by omega
    obtain ⟨tn1, tn2, tn3⟩ := tn
    refine ⟨.ref p, rfl, p, _, rfl, .inl (hB _ (Same.refl _)), .ref p, rfl, p, _, rfl, .inl (hB _ (Same.refl _)), _, 8, rfl, rfl, ⟨by decide, by decide⟩, 1, _, rfl, rfl, 0, _, _, _, rfl, ⟨by omega, by omega, tn1, tn2⟩,
      for_rangeC (lo := 0) (Pv := fun i σ H' => ∃ y1 y2 y3 y4 y5 y6 y7 y8, σ = [some (.ref p), y1, y2, y3, y4, y5, y6, y7, y8] ∧ Same HB H') ⟨_, _, _, _, _, _, _, _, rfl, Same.refl HB⟩ ?_ ?_⟩
    · rintro x σ H1 hx ⟨y1, y2, y3, y4, y5, y6, y7, y8, rfl, s1⟩
      have k8 := tn3 x hx
      have k0 : 0 ≤ (x : Int) * (1 + (((ns.map V.int).length : Nat) : Int) / 8) := Int.mul_nonneg (by omega) (by omega)
      rw [Int.zero_add]
      generalize (x : Int) * (1 + (((ns.map V.int).length : Nat) : Int) / 8) = k at k8 k0
      refine ⟨.ref p, rfl, .int k, rfl, p, ns, k, rfl, hB _ s1, hbits, k0, by omega, fun t H2 T tb s2 => ⟨.ref p, rfl, .int k, rfl, k, 1, rfl, rfl, p, ns, k + 1, rfl, hB _ (s1.trans s2), by omega, fun c hc => ⟨.int k, rfl, c, k, rfl, cb c hc, k0, by omega, fun v H3 v0 v1 s3 => ⟨_, _, rfl, ?_⟩⟩⟩⟩
      have t2 := T.two
      have tS := T.small tb
      have s4 : Same HB H3 := (s1.trans s2).trans s3
      have m1 := Int.emod_nonneg v (show t ≠ 0 by omega)
      have m2 := Int.emod_lt_of_pos v (show 0 < t by omega)
      have m3 := Int.emod_nonneg (v / 3) (show t ≠ 0 by omega)
      have m4 := Int.emod_lt_of_pos (v / 3) (show 0 < t by omega)
      have m5 := Int.emod_nonneg (v / 5) (show t - 1 ≠ 0 by omega)
      have m6 := Int.emod_lt_of_pos (v / 5) (show 0 < t - 1 by omega)
      have m7 := Int.emod_nonneg (v % t) (show t - 1 ≠ 0 by omega)
      have m8 := Int.emod_lt_of_pos (v % t) (show 0 < t - 1 by omega)
      have m9 := Int.emod_nonneg (v / 7) (show t - 1 ≠ 0 by omega)
      have m0 := Int.emod_lt_of_pos (v / 7) (show 0 < t - 1 by omega)
      refine ⟨.int t, rfl, t, 1, rfl, rfl, .int t, rfl, t, 2, rfl, rfl, .int v, rfl, .int t, rfl, v, t, rfl, rfl, (by show (0 : Int) < t; omega), .int v, rfl, v, 3, rfl, rfl, ⟨by decide, by decide⟩, .int t, rfl, v / 3, t, rfl, rfl, (by show (0 : Int) < t; omega), by show 6 ≤ sizeLine; decide, fun b nb => ?_⟩
      have h6 : ∀ x ∈ [V.int 0, V.int 1, V.int (t - 1), V.int (t - 2), V.int (v % t), V.int (v / 3 % t)], ∃ a, x = V.int a ∧ 0 ≤ a ∧ a < t := by
        simp only [List.mem_cons, List.not_mem_nil, or_false]
        rintro x (rfl | rfl | rfl | rfl | rfl | rfl)
        · exact ⟨_, rfl, by omega, by omega⟩
        · exact ⟨_, rfl, by omega, by omega⟩
        · exact ⟨_, rfl, by omega, by omega⟩
        · exact ⟨_, rfl, by omega, by omega⟩
        · exact ⟨_, rfl, m1, m2⟩
        · exact ⟨_, rfl, m3, m4⟩
      have h4 : ∀ x ∈ [V.int 0, V.int (t - 2), V.int (v / 5 % (t - 1)), V.int (v % t % (t - 1))], ∃ a, x = V.int a ∧ 0 ≤ a ∧ a < t - 1 := by
        simp only [List.mem_cons, List.not_mem_nil, or_false]
        rintro x (rfl | rfl | rfl | rfl)
        · exact ⟨_, rfl, by omega, by omega⟩
        · exact ⟨_, rfl, by omega, by omega⟩
        · exact ⟨_, rfl, m5, m6⟩
        · exact ⟨_, rfl, m7, m8⟩
      have s5 := same_upd (o := .tup [V.int 0, V.int 1, V.int (t - 1), V.int (t - 2), V.int (v % t), V.int (v / 3 % t)]) nb
      have e5 : upd H3 b (.tup [V.int 0, V.int 1, V.int (t - 1), V.int (t - 2), V.int (v % t), V.int (v / 3 % t)]) b = _ := upd_same
      generalize [V.int 0, V.int 1, V.int (t - 1), V.int (t - 2), V.int (v % t), V.int (v / 3 % t)] = six at *
      generalize upd H3 b (.tup six) = H4 at *
      refine ⟨b, rfl, ⟨_, SqT.of e5⟩, for_tup (K := K) (a := b) (xs := six) (fun i σ H' => ∃ y4 y5 y6, σ = [some (.ref p), some (.int k), some (.int t), some (.int v), y4, y5, y6, y7, y8] ∧ Same H4 H') ⟨_, _, _, rfl, Same.refl _⟩ (fun i σ H' _ ⟨_, _, _, _, h⟩ => SqT.of (h _ _ e5)) ?_ ?_⟩
      · rintro i x σ H5 hx ⟨z4, z5, z6, rfl, s6⟩
        obtain ⟨team, rfl, te0, te1⟩ := h6 x (List.mem_of_getElem? hx)
        refine ⟨.int t, rfl, t, 2, rfl, rfl, .int v, rfl, v, 5, rfl, rfl, ⟨by decide, by decide⟩, .int t, rfl, t, 1, rfl, rfl, v / 5, t - 1, rfl, rfl, (by show (0 : Int) < t - 1; omega),
          .int v, rfl, .int t, rfl, v, t, rfl, rfl, (by show (0 : Int) < t; omega), .int t, rfl, t, 1, rfl, rfl, v % t, t - 1, rfl, rfl, (by show (0 : Int) < t - 1; omega), by show 4 ≤ sizeLine; decide, fun g ng => ?_⟩
        have s7 := same_upd (o := .tup [V.int 0, V.int (t - 2), V.int (v / 5 % (t - 1)), V.int (v % t % (t - 1))]) ng
        have e7 : upd H5 g (.tup [V.int 0, V.int (t - 2), V.int (v / 5 % (t - 1)), V.int (v % t % (t - 1))]) g = _ := upd_same
        generalize [V.int 0, V.int (t - 2), V.int (v / 5 % (t - 1)), V.int (v % t % (t - 1))] = four at *
        generalize upd H5 g (.tup four) = H6 at *
        refine ⟨g, rfl, ⟨_, SqT.of e7⟩, for_tup (K := K) (a := g) (xs := four) (fun i σ H' => ∃ y5, σ = [some (.ref p), some (.int k), some (.int t), some (.int v), some (.int team), y5, z6, y7, y8] ∧ Same H6 H') ⟨_, rfl, Same.refl _⟩ (fun i σ H' _ ⟨_, _, h⟩ => SqT.of (h _ _ e7)) ?_ ?_⟩
        · rintro j y σ H7 hy ⟨w5, rfl, s8⟩
          obtain ⟨r, rfl, r0, r1⟩ := h4 y (List.mem_of_getElem? hy)
          refine ⟨.int t, rfl, .int team, rfl, .int r, rfl, t, team, r, rfl, T, tS, te0, te1, r0, r1, fun H8 s9 => ⟨true, rfl, iteF ⟨_, rfl, s8.trans s9⟩⟩⟩
        · rintro σ H7 ⟨w5, rfl, s8⟩
          refine ⟨.int team, rfl, team, 1, rfl, rfl, .int v, rfl, v, 7, rfl, rfl, ⟨by decide, by decide⟩, .int t, rfl, t, 1, rfl, rfl, v / 7, t - 1, rfl, rfl, (by show (0 : Int) < t - 1; omega), team + 1, _, rfl, rfl, .int t, rfl, _, t, rfl, rfl, (by show (0 : Int) < t; omega), ?_⟩
          have o0 := Int.emod_nonneg (team + 1 + v / 7 % (t - 1)) (show t ≠ 0 by omega)
          have o1 := Int.emod_lt_of_pos (team + 1 + v / 7 % (t - 1)) (show 0 < t by omega)
          have one := emod3 (y := team + 1 + v / 7 % (t - 1)) (m := t) (by omega) (by omega) (by omega)
          have on : team ≠ (team + 1 + v / 7 % (t - 1)) % t := by omega
          refine ⟨.int t, rfl, .int team, rfl, .int ((team + 1 + v / 7 % (t - 1)) % t), rfl, t, team, ((team + 1 + v / 7 % (t - 1)) % t), rfl, T, tS, te0, te1, o0, o1, on, true, rfl, iteF ⟨.int t, rfl, .int ((team + 1 + v / 7 % (t - 1)) % t), rfl, .int team, rfl, t, ((team + 1 + v / 7 % (t - 1)) % t), team, rfl, T, tS, o0, o1, te0, te1, on.symm, true, rfl, iteF ?_⟩⟩
          exact ⟨_, _, _, rfl, (s6.trans s7).trans s8⟩
      · rintro σ H5 ⟨z4, z5, z6, rfl, s6⟩
        exact ⟨_, _, _, _, _, _, _, _, rfl, (s4.trans s5).trans s6⟩
    · rintro σ H1 ⟨y1, y2, y3, y4, y5, y6, y7, y8, rfl, s1⟩
      refine ⟨.ref p, rfl, p, ns, 0, rfl, hB _ s1, by decide, fun c hc => ⟨10, 18, rfl, rfl, ⟨by decide, by decide, by decide⟩, c, _, rfl, rfl, (by show (0 : Int) < (10 : Int) ^ (18 : Int).toNat; decide), _, 5, 12, rfl, by decide, fun v H2 v0 v1 s2 => ⟨2, v, rfl, rfl, .inl ⟨by decide, by decide⟩, 2, 2 * v, rfl, rfl, ?_⟩⟩⟩
      have fT : TOk (2 + 2 * v) := ⟨by omega, by omega⟩
      have f24 : 2 + 2 * v ≤ 24 := by omega
      have f2 := fT.two
      have h3 : ∀ x ∈ [V.int 2, V.int 4, V.int (2 + 2 * v)], ∃ t, x = V.int t ∧ TOk t ∧ t ≤ 24 := by
        simp only [List.mem_cons, List.not_mem_nil, or_false]
        rintro x (rfl | rfl | rfl)
        · exact ⟨_, rfl, ⟨by decide, by decide⟩, by decide⟩
        · exact ⟨_, rfl, ⟨by decide, by decide⟩, by decide⟩
        · exact ⟨_, rfl, fT, f24⟩
      refine ⟨.int (2 + 2 * v), rfl, by show 3 ≤ sizeLine; decide, fun b nb => ?_⟩
      have s3 := same_upd (o := .tup [V.int 2, V.int 4, V.int (2 + 2 * v)]) nb
      have e3 : upd H2 b (.tup [V.int 2, V.int 4, V.int (2 + 2 * v)]) b = _ := upd_same
      have l3 : [V.int 2, V.int 4, V.int (2 + 2 * v)].length = 3 := rfl
      generalize [V.int 2, V.int 4, V.int (2 + 2 * v)] = three at *
      generalize upd H2 b (.tup three) = H3 at *
      refine ⟨b, rfl, ⟨_, SqT.of e3⟩, fun D nD => lc_tup (K := K) (a := b) (xs := three) (fun i H' => Same H3 H' ∧ H' D = some (.lst ((List.replicate i true).map V.bl))) ⟨same_upd nD, upd_same⟩ (fun i H' _ h => SqT.of (h.1 _ _ e3)) ?_ ?_⟩
      · rintro i x H4 hx ⟨s4, e4⟩
        obtain ⟨t, rfl, T, t24⟩ := h3 x (List.mem_of_getElem? hx)
        refine ⟨rfl, .int t, rfl, .int t, rfl, t, rfl, T, by omega, fun H5 g s5 hP => ⟨t, g, _, rfl, hP, good_small T t24, fun H6 s6 => ⟨_, s6 _ _ (s5 _ _ e4), ?_, fun b' o eb => ?_, ?_⟩⟩⟩
        · rw [List.length_map, List.length_replicate]
          have := (List.getElem?_eq_some_iff.mp hx).1
          exact small1000 (by omega)
        · have nb' : b' ≠ D := ne_of_none eb nD
          rw [upd_ne nb']
          exact s6 _ _ (s5 _ _ (s4 _ _ eb))
        · rw [upd_same, List.replicate_succ', List.map_append]
          rfl
      · rintro H4 ⟨s4, e4⟩
        refine ⟨D, List.replicate three.length true, rfl, SqL.of e4, true, ?_, iteF ?_⟩
        · rw [l3]
          rfl
        refine ⟨.int (2 + 2 * v), rfl, (2 + 2 * v), rfl, by omega, by omega, for_range (n := (2 + 2 * v).toNat) (fun i σ H' => ∃ y4, σ = [some (.ref p), y1, y2, y3, y4, y5, y6, some (.int (2 + 2 * v)), y8]) ⟨_, rfl⟩ ?_ ?_⟩
        · rintro i σ H5 hi ⟨z4, rfl⟩
          rw [Int.zero_add]
          refine ⟨.int (2 + 2 * v), rfl, (2 + 2 * v), 1, rfl, rfl, (2 + 2 * v) - 1, rfl, by omega, by omega, fun D2 nD2 => lc_range (lo := 0) (n := ((2 + 2 * v) - 1).toNat) (fun j H' => H' D2 = some (.lst ((List.replicate j true).map V.bl))) upd_same ?_ ?_⟩
          · rintro j H6 hj e6
            rw [Int.zero_add]
            refine ⟨rfl, .int (2 + 2 * v), rfl, .int (i : Int), rfl, .int (j : Int), rfl, (2 + 2 * v), (i : Int), (j : Int), rfl, fT, fT.small (by omega), by omega, by omega, by omega, by omega, fun H7 s7 => ⟨_, s7 _ _ e6, ?_, ?_⟩⟩
            · rw [List.length_map, List.length_replicate]
              exact small1000 (by omega)
            · rw [upd_same, List.replicate_succ', List.map_append]
              rfl
          · rintro H6 e6
            refine ⟨D2, List.replicate ((2 + 2 * v) - 1).toNat true, rfl, SqL.of e6, true, ?_, iteF ⟨_, rfl⟩⟩
            exact congrArg V.bl (all_rep _)
        · rintro σ H5 ⟨z4, rfl⟩
          refine ⟨2, 0, 0, rfl, ⟨by decide, by decide⟩, by decide, by decide, by decide, by decide, rfl, true, by decide, iteT ⟨2, 1, 0, rfl, ⟨by decide, by decide⟩, by decide, by decide, by decide, by decide, by decide, by decide, rfl, ?_⟩⟩
          have : decide (V.int (rnd 2 1 0) = V.int 0) = true := by decide
          show Q (V.bl (decide (V.int (rnd 2 1 0) = V.int 0))) H5
          rw [this]
          exact q H5
end
end EM
namespace EM
open PySem PySem.Spec PyProof.Rows L2
/-! ### what the top has left -/
theorem def_mk {K : PySem.W.Frag} {h : Heap} {mg : Str → Option Value} (X : K.In h) (G : h.Ns mainGlobals mg) {x : Str} {st : Stmt} {ps : List Str} {f : Addr} {oc : Value} {od an : Option Addr} {osl : Array (Option Value)} {kV doc pm cdv ct : Value}
    (a : PySem.W.nsIn K mainGlobals x = some (some (.ref f))) (l : K.lookup f = some ⟨oc, od, .func (PySem.W.fnOf x x (defArgs st) (defBody st) (defScope st) .none kV doc pm an cdv ct), osl⟩) (c : PySem.W.codeIn K cdv x = true) (k : PySem.W.keepIn K (.ref f) = true)
    (b : ∀ (kV doc pm : Value) (an : Option Addr) (cdv ct : Value) (us : List Value), us.length = ps.length → bindArgs (PySem.W.fnOf x x (defArgs st) (defBody st) (defScope st) .none kV doc pm an cdv ct) ⟨us, []⟩ = pure (ps.zip us)) : DefAt K mg x st ps :=
  ⟨f, _, fun_mk (st := st) l c k, (fun_mk (st := st) l c k).binds b, PySem.W.mg_of X G a⟩
structure Text (K : PySem.W.Frag) (mg : Str → Option Value) : Prop where
  names : Names mg
  d0 : DefAt K mg "is_number" tIsNumber ["value"]
  dC : DefAt K mg "is_counted" tCounted ["many", "value"]
  d1 : DefAt K mg "check_teams" tChkTeams ["teams"]
  d2 : DefAt K mg "check_team" tChkTeam ["teams", "team"]
  d3 : DefAt K mg "check_round" tChkRound ["teams", "number"]
  d4 : DefAt K mg "opponent" tOpponent ["teams", "team", "number"]
  d5 : DefAt K mg "at_home" tAtHome ["teams", "team", "number"]
  d6 : DefAt K mg "round_of" tRoundOf ["teams", "one", "other"]
  d7 : DefAt K mg "_check_team_in_round" tChkTR ["teams", "team", "number"]
  d8 : DefAt K mg "_law_cell_at" tCell ["_law_script", "_law_k"]
  d9 : DefAt K mg "_law_draw" tDraw ["_law_cell", "_law_k", "_law_many"]
  d10 : DefAt K mg "_law_value" tValue ["_law_cell", "_law_k", "_law_limit"]
  d11 : DefAt K mg "_law_teams" tTeams ["_law_script", "_law_k"]
  d12 : DefAt K mg "_law_whole" tWhole ["_law_number"]
  d13 : DefAt K mg "_law_plan" tPlan ["_law_teams_here"]
  d14 : DefAt K mg "_law_lone" tLone ["_law_plan_here", "_law_number", "_law_team"]
  d15 : DefAt K mg "_law_good" tGood ["_law_teams_here", "_law_plan_here"]
  d16 : DefAt K mg "_law_says" tSays ["_law_said", "_law_due"]
  d17 : DefAt K mg "_law_right" tRight ["_law_teams_here", "_law_team", "_law_number"]
  d18 : DefAt K mg "_law_two_right" tTwo ["_law_teams_here", "_law_one", "_law_other"]
theorem Text.parts {P : Program} {w : World} {K : PySem.W.Frag} {mg : Str → Option Value} {base : Heap} (T : Text K mg) : Parts P w K mg base := by
  have N := T.names
  have whole0 := fn_isNumber (P := P) (w := w) (base := base) T.d0 N
  have cnt := fn_counted T.dC whole0
  have ct := fn_chkTeams T.d1 whole0
  have ca := fn_chkTeam T.d2 cnt
  have cr := fn_chkRound T.d3 cnt
  have tr := fn_chkTR T.d7 ct ca cr
  have pl : Plans P w K mg base := ⟨fn_opponent T.d4 tr, fn_atHome T.d5 tr, fn_roundOf T.d6 ct ca, fn_whole T.d12 N, fn_says T.d16 N⟩
  have cell := fn_cell (P := P) (w := w) (base := base) T.d8 N
  have draw := fn_draw (P := P) (w := w) (base := base) T.d9
  have value := fn_value T.d10 draw
  exact ⟨pl, cell, draw, value, fn_teams T.d11 cell draw value, fn_plan T.d13 N pl, fn_good T.d15 N (fn_lone T.d14 N), fn_right T.d17 N pl, fn_two T.d18 pl⟩
theorem law_end {P : Program} {w : World} {K : PySem.W.Frag} {h : Heap} {mg : Str → Option Value} {fa : Addr} (X : K.In h) (G : h.Ns mainGlobals mg) (hfa : mg "law" = some (.ref fa)) (T : Text K mg)
    {f : Addr} {oc : Value} {od an : Option Addr} {osl : Array (Option Value)} {kV doc pm cdv ct : Value}
    (a : PySem.W.nsIn K mainGlobals "law" = some (some (.ref f))) (l : K.lookup f = some ⟨oc, od, .func (PySem.W.fnOf "law" "law" (defArgs tLaw) (defBody tLaw) (defScope tLaw) .none kV doc pm an cdv ct), osl⟩) (c : PySem.W.codeIn K cdv "law" = true) (k : PySem.W.keepIn K (.ref f) = true) :
    ∃ fd : FuncData, (∀ (s : Shared) (v : Value), BindsTo s fd ⟨[v], []⟩ [("_law_script", v)]) ∧ ∀ base : Heap, K.In base → base.Ns mainGlobals mg → FnOk P w K mg base CX0 7 fa fd ["_law_script"] (spLaw K) := by
  have e := hfa.symm.trans (PySem.W.mg_of X G a)
  cases e
  exact ⟨_, fun s v => .of_eq rfl, fun base _ _ => ok_law (fun_mk (st := tLaw) l c k) T.names T.parts⟩
theorem bits_log {z : Int} (h : Builtin.Int.intBits z ≤ 1048576) : bits20 z := by
  unfold Builtin.Int.intBits at h
  show z.natAbs.log2 ≤ 1048576
  by_cases e : z.natAbs = 0
  · rw [e]
    decide
  · rcases z with (_ | n) | n <;> simp_all <;> omega
theorem law_walk {l : PySem.W.OpenLaw} {q : Program} {loose : List Str} {XP : (Str → Option Value) → Heap → Prop} {YP : World → Heap → Prop} {d : DefRec} {K : Params → PySem.W.Frag} (hn : l.most = some 63) (hdf : d.params.defaults = [])
    (hY : ∀ (w : World) (h : Heap), YP w h → (K w.params).In h)
    (F : ∀ (w : World) (mg : Str → Option Value) (fa : Addr) (h : Heap), (K w.params).In h → h.Ns mainGlobals mg → mg d.name = some (.ref fa) →
      ∃ fd : FuncData, (∀ (s : Shared) (u : Value), BindsTo s fd ⟨[u], []⟩ [("_law_script", u)]) ∧ ∀ base : Heap, (K w.params).In base → base.Ns mainGlobals mg → FnOk l.prog w (K w.params) mg base CX0 7 fa fd ["_law_script"] (spLaw (K w.params))) :
    PySem.W.WalkO q loose XP YP l.row.toRowW d [] (fun f vs => PySem.call f vs) :=
  L2.walk_ofB (n := 63) (k := 7) (x := "_law_script") (CX := fun _ => CX0) (sp := fun w => spLaw (K w.params)) hn (by decide) hdf ⟨rfl, by decide, by decide⟩ hY F (fun _ _ a ns hl hb _ hS => ⟨a, ns, rfl, hS, hl, fun n hm => bits_log (hb n hm), fun _ => rfl⟩) fun _ _ _ _ _ z => z
end EM
open PySem PySem.W PyProof.Rows in
set_option maxHeartbeats 0 in
theorem PySem.Challenge.cw_everymeets_k01_whole_plan_holds : PySem.Challenge.rw_everymeets_k01_whole_plan.Holds := by
  w_on; o_law; k_head; (case hw => w_witness2)
  k_fill
  refine EM.law_walk (l := PySem.Challenge.rw_everymeets_k01_whole_plan) rfl rfl (fun w h Y => PySem.W.kIn_of Y) ?F
  case F =>
    intro w mg fa h KX G hmg
    refine' EM.law_end KX G hmg ⟨⟨PySem.W.mg_none_of KX G ?z0, PySem.W.mg_none_of KX G ?z1, PySem.W.mg_none_of KX G ?z2, PySem.W.mg_none_of KX G ?z3, PySem.W.mg_none_of KX G ?z4, PySem.W.mg_none_of KX G ?z5, PySem.W.mg_none_of KX G ?z6, PySem.W.mg_none_of KX G ?z7, PySem.W.mg_none_of KX G ?z8⟩, EM.def_mk KX G ?a0 ?l0 ?c0 ?k0 (fun _ _ _ _ _ _ us hl => match us, hl with | [_], _ => rfl), EM.def_mk KX G ?aC ?lC ?cC ?kC (fun _ _ _ _ _ _ us hl => match us, hl with | [_, _], _ => rfl), EM.def_mk KX G ?a1 ?l1 ?c1 ?k1 (fun _ _ _ _ _ _ us hl => match us, hl with | [_], _ => rfl), EM.def_mk KX G ?a2 ?l2 ?c2 ?k2 (fun _ _ _ _ _ _ us hl => match us, hl with | [_, _], _ => rfl), EM.def_mk KX G ?a3 ?l3 ?c3 ?k3 (fun _ _ _ _ _ _ us hl => match us, hl with | [_, _], _ => rfl), EM.def_mk KX G ?a4 ?l4 ?c4 ?k4 (fun _ _ _ _ _ _ us hl => match us, hl with | [_, _, _], _ => rfl), EM.def_mk KX G ?a5 ?l5 ?c5 ?k5 (fun _ _ _ _ _ _ us hl => match us, hl with | [_, _, _], _ => rfl), EM.def_mk KX G ?a6 ?l6 ?c6 ?k6 (fun _ _ _ _ _ _ us hl => match us, hl with | [_, _, _], _ => rfl), EM.def_mk KX G ?a7 ?l7 ?c7 ?k7 (fun _ _ _ _ _ _ us hl => match us, hl with | [_, _, _], _ => rfl), EM.def_mk KX G ?a8 ?l8 ?c8 ?k8 (fun _ _ _ _ _ _ us hl => match us, hl with | [_, _], _ => rfl), EM.def_mk KX G ?a9 ?l9 ?c9 ?k9 (fun _ _ _ _ _ _ us hl => match us, hl with | [_, _, _], _ => rfl), EM.def_mk KX G ?a10 ?l10 ?c10 ?k10 (fun _ _ _ _ _ _ us hl => match us, hl with | [_, _, _], _ => rfl), EM.def_mk KX G ?a11 ?l11 ?c11 ?k11 (fun _ _ _ _ _ _ us hl => match us, hl with | [_, _], _ => rfl), EM.def_mk KX G ?a12 ?l12 ?c12 ?k12 (fun _ _ _ _ _ _ us hl => match us, hl with | [_], _ => rfl), EM.def_mk KX G ?a13 ?l13 ?c13 ?k13 (fun _ _ _ _ _ _ us hl => match us, hl with | [_], _ => rfl), EM.def_mk KX G ?a14 ?l14 ?c14 ?k14 (fun _ _ _ _ _ _ us hl => match us, hl with | [_, _, _], _ => rfl), EM.def_mk KX G ?a15 ?l15 ?c15 ?k15 (fun _ _ _ _ _ _ us hl => match us, hl with | [_, _], _ => rfl), EM.def_mk KX G ?a16 ?l16 ?c16 ?k16 (fun _ _ _ _ _ _ us hl => match us, hl with | [_, _], _ => rfl), EM.def_mk KX G ?a17 ?l17 ?c17 ?k17 (fun _ _ _ _ _ _ us hl => match us, hl with | [_, _, _], _ => rfl), EM.def_mk KX G ?a18 ?l18 ?c18 ?k18 (fun _ _ _ _ _ _ us hl => match us, hl with | [_, _, _], _ => rfl)⟩ ?a ?l ?c ?k
    (case z0 => k_is)
    (case z1 => k_is)
    (case z2 => k_is)
    (case z3 => k_is)
    (case z4 => k_is)
    (case z5 => k_is)
    (case z6 => k_is)
    (case z7 => k_is)
    (case z8 => k_is)
    (case a0 => k_is)
    (case l0 => k_is)
    (case c0 => k_is)
    (case k0 => k_is)
    (case aC => k_is)
    (case lC => k_is)
    (case cC => k_is)
    (case kC => k_is)
    (case a1 => k_is)
    (case l1 => k_is)
    (case c1 => k_is)
    (case k1 => k_is)
    (case a2 => k_is)
    (case l2 => k_is)
    (case c2 => k_is)
    (case k2 => k_is)
    (case a3 => k_is)
    (case l3 => k_is)
    (case c3 => k_is)
    (case k3 => k_is)
    (case a4 => k_is)
    (case l4 => k_is)
    (case c4 => k_is)
    (case k4 => k_is)
    (case a5 => k_is)
    (case l5 => k_is)
    (case c5 => k_is)
    (case k5 => k_is)
    (case a6 => k_is)
    (case l6 => k_is)
    (case c6 => k_is)
    (case k6 => k_is)
    (case a7 => k_is)
    (case l7 => k_is)
    (case c7 => k_is)
    (case k7 => k_is)
    (case a8 => k_is)
    (case l8 => k_is)
    (case c8 => k_is)
    (case k8 => k_is)
    (case a9 => k_is)
    (case l9 => k_is)
    (case c9 => k_is)
    (case k9 => k_is)
    (case a10 => k_is)
    (case l10 => k_is)
    (case c10 => k_is)
    (case k10 => k_is)
    (case a11 => k_is)
    (case l11 => k_is)
    (case c11 => k_is)
    (case k11 => k_is)
    (case a12 => k_is)
    (case l12 => k_is)
    (case c12 => k_is)
    (case k12 => k_is)
    (case a13 => k_is)
    (case l13 => k_is)
    (case c13 => k_is)
    (case k13 => k_is)
    (case a14 => k_is)
    (case l14 => k_is)
    (case c14 => k_is)
    (case k14 => k_is)
    (case a15 => k_is)
    (case l15 => k_is)
    (case c15 => k_is)
    (case k15 => k_is)
    (case a16 => k_is)
    (case l16 => k_is)
    (case c16 => k_is)
    (case k16 => k_is)
    (case a17 => k_is)
    (case l17 => k_is)
    (case c17 => k_is)
    (case k17 => k_is)
    (case a18 => k_is)
    (case l18 => k_is)
    (case c18 => k_is)
    (case k18 => k_is)
    (case a => k_is)
    (case l => k_is)
    (case c => k_is)
    (case k => k_is)
