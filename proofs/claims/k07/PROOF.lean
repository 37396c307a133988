import PyProof.Rows.All
import Wide.All
import OpenK.AllK
import Wide.FinOn
import PyProof.EqAt
import PyProof.EqKinds
import PyProof.TupleCall
import KE.KEqDeep
import HandS.ForMost
import HandS.Conv
import HandS.IsInst
import HandS.Set
import HandS.SetFor
import HandS.Evl
import HandS.EndBits
import HandS.WideBits
import HandS.TupLe
import HandS.Exc
import HandS.ExcOwn
import HandS.WordsExc
import HandS.TryOnly
import HandS.ExcIs
import HandS.Gcd
import HandS.RevRange
import HandS.Dict
import KE.KMathG
import Flt.RightSqrt
import HandS.Style
import HandS.SortRule
import HandS.SortInts
import HandS.ExcCtx
import HandS.Hot
import HandS.HotCalls
import PyProof.LongRange
import HandS.WordsDict
import HandS.Lambda
import HandS.EndTab
import KE.KNestM
import PySem.Challenge.RW_sumsapart_k07_whole_numbers
set_option Elab.async false
set_option linter.all false
set_option maxRecDepth 100000
set_option maxHeartbeats 4000000
/-! numbers modulo a prime -/
namespace NT
def Pr (p : Nat) : Prop := 1 < p ∧ ∀ d, d ∣ p → d = 1 ∨ d = p
theorem Pr.pos {p : Nat} (h : Pr p) : 0 < p := Nat.lt_of_lt_of_le (by decide) (Nat.le_of_lt h.1)
theorem euclid {p a b : Nat} (hp : Pr p) (h : p ∣ a * b) : p ∣ a ∨ p ∣ b := by
  rcases hp.2 _ (Nat.gcd_dvd_left p a) with g | g
  · exact .inr (Nat.Coprime.dvd_of_dvd_mul_left g h)
  · exact .inl (g ▸ Nat.gcd_dvd_right p a)
theorem dvd_abs {p : Nat} {a : Int} : (p : Int) ∣ a ↔ p ∣ a.natAbs := by
  rw [← Int.natCast_dvd_natCast, Int.dvd_natAbs]
theorem euclidI {p : Nat} {a b : Int} (hp : Pr p) (h : (p : Int) ∣ a * b) : (p : Int) ∣ a ∨ (p : Int) ∣ b := by
  rw [dvd_abs, Int.natAbs_mul] at h
  rw [dvd_abs, dvd_abs]
  exact euclid hp h
/-- alike modulo p -/
def Cg (p : Nat) (a b : Int) : Prop := (p : Int) ∣ a - b
theorem Cg.rfl {p : Nat} {a : Int} : Cg p a a := by
  unfold Cg
  rw [Int.sub_self]
  exact Int.dvd_zero _
theorem Cg.of_eq {p : Nat} {a b : Int} (h : a = b) : Cg p a b := h ▸ .rfl
theorem Cg.symm {p : Nat} {a b : Int} (h : Cg p a b) : Cg p b a := by
  obtain ⟨k, hk⟩ := h
  exact ⟨-k, by grind⟩
theorem Cg.trans {p : Nat} {a b c : Int} (h : Cg p a b) (h2 : Cg p b c) : Cg p a c := by
  obtain ⟨k, hk⟩ := h
  obtain ⟨l, hl⟩ := h2
  exact ⟨k + l, by grind⟩
theorem Cg.add {p : Nat} {a b c d : Int} (h : Cg p a b) (h2 : Cg p c d) : Cg p (a + c) (b + d) := by
  obtain ⟨k, hk⟩ := h
  obtain ⟨l, hl⟩ := h2
  exact ⟨k + l, by grind⟩
theorem Cg.sub {p : Nat} {a b c d : Int} (h : Cg p a b) (h2 : Cg p c d) : Cg p (a - c) (b - d) := by
  obtain ⟨k, hk⟩ := h
  obtain ⟨l, hl⟩ := h2
  exact ⟨k - l, by grind⟩
theorem Cg.mul {p : Nat} {a b c d : Int} (h : Cg p a b) (h2 : Cg p c d) : Cg p (a * c) (b * d) := by
  obtain ⟨k, hk⟩ := h
  obtain ⟨l, hl⟩ := h2
  exact ⟨k * c + b * l, by grind⟩
theorem Cg.pow {p : Nat} {a b : Int} (h : Cg p a b) : ∀ n : Nat, Cg p (a ^ n) (b ^ n)
  | 0 => .of_eq (by rw [Int.pow_zero, Int.pow_zero])
  | n + 1 => by
    rw [Int.pow_succ, Int.pow_succ]
    exact (Cg.pow h n).mul h
theorem Cg.mod {p : Nat} {a : Int} : Cg p (a % p) a := ⟨-(a / p), by have := Int.emod_add_mul_ediv a p; grind⟩
theorem cg_iff {p : Nat} {a b : Int} : Cg p a b ↔ a % p = b % p := by
  rw [Int.emod_eq_emod_iff_emod_sub_eq_zero]
  exact ⟨fun h => Int.emod_eq_zero_of_dvd h, fun h => Int.dvd_of_emod_eq_zero h⟩
theorem Cg.zero {p : Nat} {a : Int} : Cg p a 0 ↔ (p : Int) ∣ a := by
  unfold Cg
  rw [Int.sub_zero]
theorem Cg.cancel {p : Nat} {a b c : Int} (hp : Pr p) (hc : ¬ (p : Int) ∣ c) (h : Cg p (a * c) (b * c)) : Cg p a b := by
  have h2 : (p : Int) ∣ (a - b) * c := by
    have e : (a - b) * c = a * c - b * c := by grind
    rw [e]
    exact h
  exact (euclidI hp h2).resolve_right hc
/-- what lies between 0 and p is told by its class -/
theorem cg_small {p : Nat} {a b : Int} (h : Cg p a b) (a0 : 0 ≤ a) (a1 : a < p) (b0 : 0 ≤ b) (b1 : b < p) : a = b := by
  have h2 := cg_iff.mp h
  rw [Int.emod_eq_of_lt a0 a1, Int.emod_eq_of_lt b0 b1] at h2
  exact h2
theorem not_dvd_small {p : Nat} {a : Int} (a0 : 0 < a) (a1 : a < p) : ¬ (p : Int) ∣ a := fun h => by
  have := Int.le_of_dvd a0 h
  omega
/-! ### Fermat -/
theorem perm_of_sub : ∀ (l1 l2 : List Nat), l1.Nodup → (∀ x ∈ l1, x ∈ l2) → l2.length ≤ l1.length → l1.Perm l2
  | [], l2, _, _, h => by
    have : l2 = [] := List.eq_nil_of_length_eq_zero (by simpa using h)
    rw [this]
  | a :: t, l2, hn, hs, hl => by
    have ha : a ∈ l2 := hs a List.mem_cons_self
    have hn2 := List.nodup_cons.mp hn
    have h1 := List.perm_cons_erase ha
    have h2 : (l2.erase a).length = l2.length - 1 := List.length_erase_of_mem ha
    have ih := perm_of_sub t (l2.erase a) hn2.2 (fun x hx => (List.mem_erase_of_ne (by intro e; subst e; exact hn2.1 hx)).mpr (hs x (List.mem_cons_of_mem _ hx))) (by rw [h2]; simp only [List.length_cons] at hl; omega)
    exact (ih.cons a).trans h1.symm
theorem prod_mod (a p : Nat) : ∀ l : List Nat, (l.map fun x => a * x % p).prod % p = a ^ l.length * l.prod % p
  | [] => by simp
  | x :: l => by
    have ih := prod_mod a p l
    rw [List.map_cons, List.prod_cons, List.prod_cons, List.length_cons, Nat.mul_mod, ih, Nat.mod_mod, ← Nat.mul_mod, Nat.pow_succ]
    congr 1
    grind
theorem prod_not_dvd {p : Nat} (hp : Pr p) : ∀ l : List Nat, (∀ x ∈ l, ¬ p ∣ x) → ¬ p ∣ l.prod
  | [], _ => fun h => by
    have := Nat.le_of_dvd (by decide) h
    have := hp.1
    simp at *
    omega
  | x :: l, h => fun q => by
    rw [List.prod_cons] at q
    rcases euclid hp q with q | q
    · exact h x List.mem_cons_self q
    · exact prod_not_dvd hp l (fun y hy => h y (List.mem_cons_of_mem _ hy)) q
theorem mod_eq_dvd {p a b : Nat} (h : a % p = b % p) (hab : b ≤ a) : p ∣ a - b := Nat.dvd_of_mod_eq_zero (Nat.sub_mod_eq_zero_of_mod_eq h)
theorem fermatN {p a : Nat} (hp : Pr p) (ha : ¬ p ∣ a) : p ∣ a ^ (p - 1) - 1 := by
  have p0 := hp.1
  have hmem : ∀ x, x ∈ List.range' 1 (p - 1) ↔ 1 ≤ x ∧ x < p := fun x => by
    rw [List.mem_range'_1]; omega
  have hnd : ∀ x ∈ List.range' 1 (p - 1), ¬ p ∣ x := fun x hx h => by
    have h1 := (hmem x).mp hx
    have := Nat.le_of_dvd (by omega) h
    omega
  have hperm : ((List.range' 1 (p - 1)).map fun x => a * x % p).Perm (List.range' 1 (p - 1)) := by
    refine perm_of_sub _ _ ?_ ?_ (by rw [List.length_map]; exact Nat.le_refl _)
    · refine List.pairwise_map.mpr ?_
      refine List.Pairwise.imp_of_mem ?_ (List.nodup_range' (s := 1) (n := p - 1))
      intro x y hx hy hne he
      refine hne ?_
      have hx1 := (hmem x).mp hx
      have hy1 := (hmem y).mp hy
      have key : ∀ x y : Nat, x ≤ y → y < p → a * x % p = a * y % p → x = y := fun x y hxy hyp e => by
        have h1 : p ∣ a * y - a * x := mod_eq_dvd e.symm (Nat.mul_le_mul_left a hxy)
        rw [← Nat.mul_sub] at h1
        rcases euclid hp h1 with h2 | h2
        · exact absurd h2 ha
        · rcases Nat.eq_zero_or_pos (y - x) with h3 | h3
          · omega
          · have := Nat.le_of_dvd h3 h2
            omega
      rcases Nat.le_total x y with h | h
      · exact key x y h hy1.2 he
      · exact (key y x h hx1.2 he.symm).symm
    · intro y hy
      obtain ⟨x, hx, rfl⟩ := List.mem_map.mp hy
      refine (hmem _).mpr ⟨?_, Nat.mod_lt _ hp.pos⟩
      have h1 : ¬ a * x % p = 0 := fun e => by
        rcases euclid hp (Nat.dvd_of_mod_eq_zero e) with h2 | h2
        · exact ha h2
        · exact hnd x hx h2
      omega
  have e1 := hperm.prod_nat
  have e2 := prod_mod a p (List.range' 1 (p - 1))
  rw [e1, List.length_range'] at e2
  have a1 : 1 ≤ a ^ (p - 1) := Nat.pow_pos (Nat.pos_of_ne_zero fun e => ha (e ▸ Nat.dvd_zero p))
  have h3 : p ∣ a ^ (p - 1) * (List.range' 1 (p - 1)).prod - 1 * (List.range' 1 (p - 1)).prod := mod_eq_dvd (by rw [Nat.one_mul]; exact e2.symm) (Nat.mul_le_mul_right _ a1)
  rw [← Nat.sub_mul] at h3
  exact (euclid hp h3).resolve_right (prod_not_dvd hp _ hnd)
theorem fermat {p : Nat} {a : Int} (hp : Pr p) (ha : ¬ (p : Int) ∣ a) : Cg p (a ^ (p - 1)) 1 := by
  have p0 : (0 : Int) < p := Int.natCast_pos.mpr hp.pos
  obtain ⟨b, hb⟩ : ∃ b : Nat, a % p = (b : Int) := Int.eq_ofNat_of_zero_le (Int.emod_nonneg _ (by omega))
  have h1 : Cg p (b : Int) a := hb ▸ Cg.mod
  have h2 : ¬ p ∣ b := fun h => ha (Cg.zero.mp (h1.symm.trans (Cg.zero.mpr (Int.natCast_dvd_natCast.mpr h))))
  have h3 := fermatN hp h2
  have b1 : 1 ≤ b ^ (p - 1) := Nat.pow_pos (Nat.pos_of_ne_zero fun e => h2 (e ▸ Nat.dvd_zero p))
  refine (h1.symm.pow (p - 1)).trans ?_
  unfold Cg
  have h4 := Int.natCast_dvd_natCast.mpr h3
  rw [Int.natCast_sub b1, Int.natCast_pow] at h4
  exact h4
/-! ### how many roots -/
def Poly : Nat → Int → (Int → Int) → Prop
  | 0, c, f => ∀ x, f x = c
  | n + 1, c, f => ∃ (g : Int → Int) (d : Int), Poly n c g ∧ ∀ x, f x = x * g x + d
theorem poly_add : ∀ (n : Nat) (c c' r : Int) (g h : Int → Int), Poly (n + 1) c g → Poly n c' h → Poly (n + 1) c (fun x => g x + r * h x)
  | 0, c, c', r, g, h, ⟨g1, d, p1, e1⟩, p2 => ⟨g1, d + r * c', p1, fun x => by
      have h1 := e1 x
      have h2 : h x = c' := p2 x
      show g x + r * h x = _
      rw [h1, h2]
      omega⟩
  | n + 1, c, c', r, g, h, ⟨g1, d, p1, e1⟩, ⟨h1, d', p2, e2⟩ => ⟨fun x => g1 x + r * h1 x, d + r * d', poly_add n c c' r g1 h1 p1 p2, fun x => by
      show g x + r * h x = x * (g1 x + r * h1 x) + _
      rw [e1 x, e2 x]
      grind⟩
theorem poly_div : ∀ (n : Nat) (c : Int) (f : Int → Int), Poly (n + 1) c f → ∀ r, ∃ g, Poly n c g ∧ ∀ x, f x - f r = (x - r) * g x
  | 0, c, f, ⟨g, d, p, e⟩, r => ⟨g, p, fun x => by
      have h1 : g x = c := p x
      have h2 : g r = c := p r
      rw [e x, e r, h1, h2]
      grind⟩
  | n + 1, c, f, ⟨g, d, p, e⟩, r => by
    obtain ⟨h, ph, eh⟩ := poly_div n c g p r
    refine ⟨fun x => g x + r * h x, poly_add n c c r g h p ph, fun x => ?_⟩
    show f x - f r = (x - r) * (g x + r * h x)
    have := eh x
    rw [e x, e r]
    grind
theorem poly_roots {p : Nat} (hp : Pr p) : ∀ (n : Nat) (c : Int) (f : Int → Int), Poly n c f → ¬ (p : Int) ∣ c → ∀ l : List Int, l.Pairwise (fun a b => ¬ (p : Int) ∣ b - a) → (∀ x ∈ l, (p : Int) ∣ f x) → l.length ≤ n
  | 0, c, f, h, hc, l, _, hr => by
    match l, hr with
    | [], _ => exact Nat.le_refl _
    | x :: _, hr =>
      have h1 := hr x List.mem_cons_self
      rw [h x] at h1
      exact absurd h1 hc
  | n + 1, c, f, h, hc, l, hl, hr => by
    match l, hl, hr with
    | [], _, _ => exact Nat.zero_le _
    | r :: t, hl, hr =>
      obtain ⟨g, pg, eg⟩ := poly_div n c f h r
      have hl2 := List.pairwise_cons.mp hl
      have ih := poly_roots hp n c g pg hc t hl2.2 fun x hx => by
        have h1 : (p : Int) ∣ f x - f r := Int.dvd_sub (hr x (List.mem_cons_of_mem _ hx)) (hr r List.mem_cons_self)
        rw [eg x] at h1
        exact (euclidI hp h1).resolve_left (hl2.1 x hx)
      simp only [List.length_cons]
      omega
theorem poly_pow : ∀ n, Poly n 1 (fun x => x ^ n)
  | 0 => fun x => Int.pow_zero x
  | n + 1 => ⟨fun x => x ^ n, 0, poly_pow n, fun x => by
      show x ^ (n + 1) = x * x ^ n + 0
      rw [Int.pow_succ, Int.mul_comm]
      omega⟩
theorem poly_root1 (n : Nat) : Poly (n + 1) 1 (fun x => x ^ (n + 1) - 1) := ⟨fun x => x ^ n, -1, poly_pow n, fun x => by
  show x ^ (n + 1) - 1 = x * x ^ n + -1
  rw [Int.pow_succ, Int.mul_comm]
  omega⟩
/-- there is a number that no square leaves -/
theorem ex_nonres {p : Nat} (hp : Pr p) (h3 : 3 ≤ p) : ∃ z : Nat, 2 ≤ z ∧ z < p ∧ ¬ Cg p ((z : Int) ^ ((p - 1) / 2)) 1 := by
  refine Classical.byContradiction fun hno => ?_
  have hall : ∀ x ∈ (List.range' 1 (p - 1)).map fun i => ((i : Nat) : Int), (p : Int) ∣ x ^ ((p - 1) / 2) - 1 := fun x hx => by
    obtain ⟨i, hi, rfl⟩ := List.mem_map.mp hx
    rw [List.mem_range'_1] at hi
    by_cases h1 : i = 1
    · subst h1
      show Cg p (((1 : Nat) : Int) ^ ((p - 1) / 2)) 1
      refine .of_eq ?_
      exact Int.one_pow
    · refine Classical.byContradiction fun hh => hno ⟨i, by omega, by omega, hh⟩
  obtain ⟨n, hn⟩ : ∃ n, (p - 1) / 2 = n + 1 := ⟨(p - 1) / 2 - 1, by omega⟩
  rw [hn] at hall
  have := poly_roots hp (n + 1) 1 _ (poly_root1 n) (not_dvd_small (by decide) (by have := hp.1; omega)) _ ?_ hall
  · rw [List.length_map, List.length_range'] at this
    omega
  · refine List.pairwise_map.mpr ?_
    refine List.Pairwise.imp_of_mem ?_ (List.pairwise_lt_range' (s := 1) (n := p - 1))
    intro a b ha hb hab
    rw [List.mem_range'_1] at ha hb
    exact not_dvd_small (by omega) (by omega)
/-- the roots of 1 -/
theorem sq_one {p : Nat} {e : Int} (hp : Pr p) (h : Cg p (e * e) 1) (h1 : ¬ Cg p e 1) : Cg p e (-1) := by
  have h2 : (p : Int) ∣ (e - 1) * (e - -1) := by
    have e2 : (e - 1) * (e - -1) = e * e - 1 := by grind
    rw [e2]
    exact h
  exact (euclidI hp h2).resolve_left h1
/-- a prime's half -/
theorem half {p : Nat} (hp : Pr p) (h3 : 3 ≤ p) : p % 2 = 1 := by
  have h : ¬ 2 ∣ p := fun h => by
    rcases hp.2 2 h with h | h <;> omega
  omega
theorem half2 {p : Nat} (hp : Pr p) (h3 : 3 ≤ p) : (p - 1) / 2 + (p - 1) / 2 = p - 1 := by
  have := half hp h3
  omega
theorem pow_half {p : Nat} {z : Int} (hp : Pr p) (h3 : 3 ≤ p) (hz : ¬ (p : Int) ∣ z) : Cg p (z ^ ((p - 1) / 2) * z ^ ((p - 1) / 2)) 1 := by
  rw [← Int.pow_add, half2 hp h3]
  exact fermat hp hz
/-- what a square leaves is of power 1 -/
theorem square_half {p : Nat} {s g : Int} (hp : Pr p) (h3 : 3 ≤ p) (hs : ¬ (p : Int) ∣ s) (h : Cg p (g * g) s) : Cg p (s ^ ((p - 1) / 2)) 1 := by
  have hg : ¬ (p : Int) ∣ g := fun h2 => hs (Cg.zero.mp (h.symm.trans (Cg.zero.mpr (Int.dvd_mul_of_dvd_left h2))))
  refine (h.symm.pow _).trans ?_
  rw [Int.mul_pow]
  exact pow_half hp h3 hg
end NT

/-! a prime's marks -/
namespace NT
/-- a prime from 3 to 1000000 -/
def PrI (i : Int) : Prop := 3 ≤ i ∧ i ≤ 1000000 ∧ Pr i.toNat
theorem PrI.odd {p : Int} (h : PrI p) : p % 2 = 1 := by
  have h1 := half h.2.2 (by have := h.1; omega)
  have h0 := h.1
  omega
theorem PrI.nat {p : Int} (h : PrI p) : ∃ n : Nat, p = (n : Int) ∧ Pr n ∧ 3 ≤ n ∧ n ≤ 1000000 := ⟨p.toNat, by have := h.1; omega, h.2.2, by have := h.1; omega, by have := h.2.1; omega⟩
/-- tried by the odd numbers -/
theorem trial {p s n : Nat} (h3 : 3 ≤ p) (ho : p % 2 = 1) (hs : p < (s + 1) * (s + 1)) (hn : s < 3 + 2 * n) (h : ∀ k, k < n → ¬ (3 + 2 * k) ∣ p) : Pr p := by
  have key : ∀ d e, p = d * e → d ≤ e → d = 1 := fun d e he hde => by
    refine Classical.byContradiction fun h1 => ?_
    have hd0 : d ≠ 0 := fun z => by rw [z, Nat.zero_mul] at he; omega
    have hds : d ≤ s := by
      refine Nat.le_of_not_lt fun hh => ?_
      have : (s + 1) * (s + 1) ≤ d * e := Nat.mul_le_mul hh (Nat.le_trans hh hde)
      omega
    have hodd : d % 2 = 1 := by
      rcases Nat.mod_two_eq_zero_or_one d with z | z
      · have : p % 2 = 0 := by rw [he, Nat.mul_mod, z, Nat.zero_mul, Nat.zero_mod]
        omega
      · exact z
    exact h ((d - 3) / 2) (by omega) ⟨e, by rw [show 3 + 2 * ((d - 3) / 2) = d by omega]; exact he⟩
  refine ⟨by omega, fun d ⟨e, he⟩ => ?_⟩
  rcases Nat.le_total d e with h1 | h1
  · exact .inl (key d e he h1)
  · have h2 := key e d (by rw [Nat.mul_comm]; exact he) h1
    right
    rw [he, h2, Nat.mul_one]
/-- what goes into it -/
theorem not_pr {p s d : Nat} (h3 : 3 ≤ p) (hs : s * s ≤ p) (h1 : 3 ≤ d) (h2 : d ≤ s) (h : d ∣ p) : ¬ Pr p := fun hp => by
  rcases hp.2 d h with e | e
  · omega
  · subst e
    have : d * d ≤ d := Nat.le_trans (Nat.mul_le_mul h2 h2) hs
    have h5 : 3 * d ≤ d * d := Nat.mul_le_mul_right d h1
    omega
def place (p n : Int) : Int := 2 * p * n + n * n % p
theorem place_bounds {p : Int} (hp : 0 < p) (n : Int) : 2 * p * n ≤ place p n ∧ place p n < 2 * p * n + p := by
  unfold place
  have h1 := Int.emod_nonneg (n * n) (show p ≠ 0 by omega)
  have h2 := Int.emod_lt_of_pos (n * n) hp
  omega
theorem ediv_of {t q S r : Int} (hq : 0 < q) (h : t = q * S + r) (h0 : 0 ≤ r) (h1 : r < q) : t / q = S := by
  rw [h, Int.mul_add_ediv_left _ _ (by omega), Int.ediv_eq_zero_of_lt h0 h1, Int.add_zero]
/-- the sum's quotient -/
theorem both_is {p a b t : Int} (hp : 0 < p) (h : place p a + place p b = t) : t / (2 * p) = a + b := by
  have h1 := Int.emod_nonneg (a * a) (show p ≠ 0 by omega)
  have h2 := Int.emod_lt_of_pos (a * a) hp
  have h3 := Int.emod_nonneg (b * b) (show p ≠ 0 by omega)
  have h4 := Int.emod_lt_of_pos (b * b) hp
  unfold place at h
  exact ediv_of (r := a * a % p + b * b % p) (by omega) (by rw [Int.mul_add]; omega) (by omega) (by omega)
theorem cg_place {p : Nat} (a : Int) : Cg p (place p a) (a * a) := by
  unfold place
  refine (Cg.add (b := 0) (Cg.zero.mpr ⟨2 * a, by grind⟩) Cg.mod).trans (.of_eq (by omega))
/-- by the prime: the square of the gap -/
theorem cg_gap {p : Nat} {a b t : Int} (h : place p a + place p b = t) : Cg p (2 * t - (a + b) * (a + b)) ((b - a) * (b - a)) := by
  have h1 := (Cg.add (cg_place (p := p) a) (cg_place (p := p) b))
  rw [h] at h1
  exact ((Cg.mul (Cg.rfl (a := 2)) h1).sub Cg.rfl).trans (.of_eq (by grind))
def Two (p t a b : Int) : Prop := 0 ≤ a ∧ a ≤ b ∧ b < p ∧ place p a + place p b = t
theorem root_gap {p : Int} {a b t g : Int} (hp : PrI p) (h : Two p t a b) (g0 : 0 ≤ g) (g1 : g < p) (hg : Cg p.toNat (g * g) (2 * t - (t / (2 * p)) * (t / (2 * p)))) :
    (if g % 2 = (t / (2 * p)) % 2 then g else p - g) = b - a ∧ t / (2 * p) = a + b := by
  obtain ⟨n, rfl, hn, n3, n6⟩ := hp.nat
  have ho := hp.odd
  obtain ⟨a0, ab, bp, e⟩ := h
  have hb := both_is (by omega) e
  rw [Int.toNat_natCast] at hg
  rw [hb] at hg ⊢
  refine ⟨?_, rfl⟩
  have h2 := hg.trans (cg_gap e)
  have h3 : (n : Int) ∣ (g - (b - a)) * (g + (b - a)) := by
    have e3 : (g - (b - a)) * (g + (b - a)) = g * g - (b - a) * (b - a) := by grind
    rw [e3]
    exact h2
  rcases euclidI hn h3 with h4 | h4
  · have : g = b - a := cg_small (p := n) h4 g0 g1 (by omega) (by omega)
    rw [if_pos (by omega)]
    exact this
  · obtain ⟨k, hk⟩ := h4
    have hk0 : 0 ≤ k := by
      refine Int.le_of_not_gt fun hh => ?_
      have : (n : Int) * k ≤ (n : Int) * (-1) := Int.mul_le_mul_of_nonneg_left (by omega) (by omega)
      omega
    have hk2 : k < 2 := by
      refine Int.lt_of_not_ge fun hh => ?_
      have : (n : Int) * 2 ≤ (n : Int) * k := Int.mul_le_mul_of_nonneg_left (by omega) (by omega)
      omega
    have hk1 : k = 0 ∨ k = 1 := by omega
    rcases hk1 with rfl | rfl
    · rw [Int.mul_zero] at hk
      rw [if_pos (by omega)]
      omega
    · rw [Int.mul_one] at hk
      rw [if_neg (by omega)]
      omega
theorem two_unique {p t a b c d : Int} (hp : PrI p) (h : Two p t a b) (h2 : Two p t c d) : a = c ∧ b = d := by
  obtain ⟨n, e, hn, n3, n6⟩ := hp.nat
  have h0 : 0 ≤ d - c := by have := h2.2.1; omega
  have h1 : d - c < p := by have := h2.1; have := h2.2.2.1; omega
  have hb := both_is (by have := hp.1; omega) h2.2.2.2
  have hg : Cg p.toNat ((d - c) * (d - c)) (2 * t - (t / (2 * p)) * (t / (2 * p))) := by
    have h5 := h2.2.2.2
    subst e
    rw [Int.toNat_natCast, hb]
    exact (cg_gap h5).symm
  have r1 := root_gap hp h h0 h1 hg
  have r2 := root_gap hp h2 h0 h1 hg
  omega
/-- no two -/
def NoTwo (p t : Int) : Prop := ∀ a b, ¬ Two p t a b
theorem two_range {p t a b : Int} (hp : PrI p) (h : Two p t a b) : 0 ≤ t / (2 * p) ∧ t / (2 * p) ≤ 2 * (p - 1) := by
  rw [both_is (by have := hp.1; omega) h.2.2.2]
  have := h.1
  have := h.2.1
  have := h.2.2.1
  omega
/-! ### differences -/
def Apt (p t a b : Int) : Prop := 0 ≤ a ∧ a < b ∧ b < p ∧ place p b - place p a = t
theorem gap_is {p a b t : Int} (hp : 0 < p) (h : place p b - place p a = t) : (t + p) / (2 * p) = b - a := by
  have h1 := Int.emod_nonneg (a * a) (show p ≠ 0 by omega)
  have h2 := Int.emod_lt_of_pos (a * a) hp
  have h3 := Int.emod_nonneg (b * b) (show p ≠ 0 by omega)
  have h4 := Int.emod_lt_of_pos (b * b) hp
  unfold place at h
  exact ediv_of (r := b * b % p - a * a % p + p) (by omega) (by rw [Int.mul_sub]; omega) (by omega) (by omega)
/-- the number that makes 1 with it -/
theorem inv_is {p : Nat} {x : Int} (hp : Pr p) (h3 : 3 ≤ p) (hx : ¬ (p : Int) ∣ x) : Cg p (x * (x ^ (p - 2) % (p : Int))) 1 := by
  refine (Cg.mul Cg.rfl Cg.mod).trans ?_
  have e : x * x ^ (p - 2) = x ^ (p - 1) := by
    rw [show p - 1 = (p - 2) + 1 by omega, Int.pow_succ, Int.mul_comm]
  rw [e]
  exact fermat hp hx
theorem low_is {p a b t : Int} (hp : PrI p) (h : Apt p t a b) : (t - (b - a) * (b - a)) * ((2 * (b - a)) ^ (p - 2).toNat % p) % p = a := by
  obtain ⟨n, rfl, hn, n3, n6⟩ := hp.nat
  obtain ⟨a0, ab, bp, e⟩ := h
  have ho := hp.odd
  have en : ((n : Int) - 2).toNat = n - 2 := by omega
  rw [en]
  have hnd : ¬ (n : Int) ∣ 2 * (b - a) := fun hh => by
    rcases euclidI hn hh with h1 | h1
    · exact not_dvd_small (by decide) (by omega) h1
    · exact not_dvd_small (by omega) (by omega) h1
  have h1 := inv_is hn n3 hnd
  have h2 : Cg n t (b * b - a * a) := e ▸ (Cg.sub (cg_place b) (cg_place a))
  have h3 : Cg n (t - (b - a) * (b - a)) (2 * (b - a) * a) := (Cg.sub h2 Cg.rfl).trans (.of_eq (by grind))
  have h4 : Cg n ((t - (b - a) * (b - a)) * ((2 * (b - a)) ^ (n - 2) % (n : Int))) a := by
    refine (Cg.mul h3 Cg.rfl).trans ?_
    have e5 : 2 * (b - a) * a * ((2 * (b - a)) ^ (n - 2) % (n : Int)) = (2 * (b - a) * ((2 * (b - a)) ^ (n - 2) % (n : Int))) * a := by grind
    rw [e5]
    exact (Cg.mul h1 Cg.rfl).trans (.of_eq (by omega))
  rw [cg_iff.mp h4, Int.emod_eq_of_lt a0 (by omega)]
theorem apt_unique {p t a b c d : Int} (hp : PrI p) (h : Apt p t a b) (h2 : Apt p t c d) : a = c ∧ b = d := by
  have p0 : 0 < p := by have := hp.1; omega
  have g1 := gap_is p0 h.2.2.2
  have g2 := gap_is p0 h2.2.2.2
  have e : b - a = d - c := by omega
  have l1 := low_is hp h
  have l2 := low_is hp h2
  rw [e] at l1
  have : a = c := l1.symm.trans l2
  omega
/-! ### powers -/
theorem pow_step {p : Nat} {r s b : Int} {l e : Nat} (h : Cg p (r * s ^ l) (b ^ e)) : Cg p ((if l % 2 = 1 then r * s % (p : Int) else r) * (s * s % (p : Int)) ^ (l / 2)) (b ^ e) := by
  have h2 : Cg p ((s * s % (p : Int)) ^ (l / 2)) ((s * s) ^ (l / 2)) := Cg.mod.pow _
  have e2 : (s * s) ^ (l / 2) = s ^ (2 * (l / 2)) := by
    rw [Int.mul_pow, ← Int.pow_add]
    congr 1
    omega
  rw [e2] at h2
  by_cases ho : l % 2 = 1
  · rw [if_pos ho]
    refine ((Cg.mul Cg.mod h2).trans (.of_eq ?_)).trans h
    have e3 : s ^ l = s * s ^ (2 * (l / 2)) := by
      rw [Int.mul_comm, ← Int.pow_succ]
      congr 1
      omega
    rw [e3, Int.mul_assoc]
  · rw [if_neg ho]
    refine ((Cg.mul Cg.rfl h2).trans (.of_eq ?_)).trans h
    congr 2
    omega
theorem pow_done {p : Nat} {r b : Int} {e : Nat} (h : Cg p r (b ^ e)) (h0 : 0 ≤ r) (h1 : r < p) : r = b ^ e % (p : Int) := by
  rw [← cg_iff.mp h, Int.emod_eq_of_lt h0 h1]
/-! ### Tonelli and Shanks -/
structure Ton (p : Nat) (s r x t : Int) (k : Nat) : Prop where
  root : Cg p (r * r) (s * x)
  one : Cg p (x ^ 2 ^ k) 1
  turn : Cg p (t ^ 2 ^ k) (-1)
theorem pow_two (x : Int) (k : Nat) : x ^ 2 ^ (k + 1) = x ^ 2 ^ k * x ^ 2 ^ k := by
  rw [← Int.pow_add]
  congr 1
  rw [Nat.pow_succ]
  omega
theorem Ton.yes {p : Nat} {s r x t : Int} {k : Nat} (hp : Pr p) (h : Ton p s r x t (k + 1)) (hx : ¬ Cg p (x ^ 2 ^ k) 1) : Ton p s (r * t % (p : Int)) (x * t * t % (p : Int)) (t * t % (p : Int)) k := by
  obtain ⟨h1, h2, h3⟩ := h
  have e1 : Cg p (x ^ 2 ^ k) (-1) := sq_one hp (by rw [← pow_two]; exact h2) hx
  have tt : Cg p ((t * t % (p : Int)) ^ 2 ^ k) (-1) := by
    refine (Cg.mod.pow _).trans ?_
    rw [Int.mul_pow, ← pow_two]
    exact h3
  refine ⟨?_, ?_, tt⟩
  · refine (Cg.mul Cg.mod Cg.mod).trans ?_
    have e4 : r * t * (r * t) = r * r * (t * t) := by grind
    rw [e4]
    refine (Cg.mul h1 Cg.rfl).trans ?_
    have e5 : s * x * (t * t) = s * (x * t * t) := by grind
    rw [e5]
    exact Cg.mul Cg.rfl Cg.mod.symm
  · refine (Cg.mod.pow _).trans ?_
    have e6 : (x * t * t) ^ 2 ^ k = x ^ 2 ^ k * t ^ 2 ^ (k + 1) := by
      rw [pow_two, Int.mul_pow, Int.mul_pow, Int.mul_assoc]
    rw [e6]
    exact (Cg.mul e1 h3).trans (.of_eq (by decide))
theorem Ton.no {p : Nat} {s r x t : Int} {k : Nat} (h : Ton p s r x t (k + 1)) (hx : Cg p (x ^ 2 ^ k) 1) : Ton p s r x (t * t % (p : Int)) k := by
  obtain ⟨h1, h2, h3⟩ := h
  refine ⟨h1, hx, (Cg.mod.pow _).trans ?_⟩
  rw [Int.mul_pow, ← pow_two]
  exact h3
theorem Ton.done {p : Nat} {s r x t : Int} (h : Ton p s r x t 0) : Cg p (r * r) s := by
  have h2 := h.one
  rw [Nat.pow_zero, Int.pow_one] at h2
  refine h.root.trans ((Cg.mul Cg.rfl h2).trans (.of_eq (by omega)))
theorem Ton.start {p : Nat} {s z : Int} {k m : Nat} (hp : Pr p) (h3 : 3 ≤ p) (hk : p - 1 = 2 ^ (k + 1) * m) (hm : m % 2 = 1) (h1 : Cg p (s ^ ((p - 1) / 2)) 1) (hz : ¬ Cg p (z ^ ((p - 1) / 2)) 1) (hz0 : ¬ (p : Int) ∣ z) :
    Ton p s (s ^ (m / 2 + 1) % (p : Int)) (s ^ m % (p : Int)) (z ^ m % (p : Int)) k := by
  have hh : (p - 1) / 2 = m * 2 ^ k := by
    rw [hk, Nat.pow_succ, Nat.mul_comm m, Nat.mul_comm (2 ^ k) 2, Nat.mul_assoc, Nat.mul_div_cancel_left _ (by decide)]
  refine ⟨?_, ?_, ?_⟩
  · refine (Cg.mul Cg.mod Cg.mod).trans ?_
    refine Cg.trans (.of_eq ?_) (Cg.mul Cg.rfl Cg.mod.symm)
    rw [← Int.pow_add]
    have e : m / 2 + 1 + (m / 2 + 1) = m + 1 := by omega
    rw [e, Int.pow_succ, Int.mul_comm]
  · refine (Cg.mod.pow _).trans ?_
    rw [← Int.pow_mul, ← hh]
    exact h1
  · refine (Cg.mod.pow _).trans ?_
    rw [← Int.pow_mul, ← hh]
    exact sq_one hp (pow_half hp h3 hz0) hz
end NT

/-! own rules over the layer -/
namespace SX
open PySem PySem.Spec PyProof.Rows L2 Evl

/-! ### a <= b <= c < d -/
def tChain3 (r r' r2 : R2) (ta tb tc td : TE) : TE := fun σ H Q => ta σ H fun x H1 => tb σ H1 fun y H2 => r x y H2 fun z H3 => ∃ k, z = .bl k ∧
  (if k = true then tc σ H3 fun w H4 => r' y w H4 fun z2 H5 => ∃ k2, z2 = .bl k2 ∧ (if k2 = true then td σ H5 fun u H6 => r2 w u H6 Q else Q (.bl false) H5) else Q (.bl false) H3)
section
variable {X : Cx} {a b c d : Expr} {ta tb tc td : TE} {pos : Pos}
theorem pe_chain3 {op op' op2 : CmpOp} {r r' r2 : R2} (ho : OpR X (compareOp op) r) (ho' : OpR X (compareOp op') r') (ho2 : OpR X (compareOp op2) r2) (ha : PE X a ta) (hb : PE X b tb) (hc : PE X c tc) (hd : PE X d td)
    (hm : lastMarks [op, op', op2] [b, c, d] = false := by with_unfolding_all rfl) : PE X (.Compare a [op, op', op2] [b, c, d] pos) (tChain3 r r' r2 ta tb tc td) := by
  refine ⟨fun pins s σ H Q I h => ?_⟩
  refine Compare_chain (thn (ha.run pins s σ H _ I h) fun v s1 ⟨x, H1, I1, r1, q1⟩ => chain_link (thn (hb.run pins s1 σ H1 _ I1 q1) fun u s2 ⟨y, H2, I2, r2, q2⟩ =>
    thn (ho pins s2 σ H2 x y v u _ I2 r1 r2 q2) fun e0 s3 ⟨z, H3, I3, r3, k, e, q3⟩ => ?_)) hm
  subst e
  cases r3
  refine wpAny_truthy_bool ?_
  cases k with
  | false => exact ite_ff ⟨.bl false, H3, I3, rfl, q3⟩
  | true =>
    refine ite_tt (chain_link (thn (hc.run pins s3 σ H3 _ I3 q3) fun w' s4 ⟨z', H4, I4, r4, q4⟩ =>
      thn (ho' pins s4 σ H4 y z' u w' _ I4 r2 r4 q4) fun e1 s5 ⟨z2, H5, I5, r5, k2, e2, q5⟩ => ?_))
    subst e2
    cases r5
    refine wpAny_truthy_bool ?_
    cases k2 with
    | false => exact ite_ff ⟨.bl false, H5, I5, rfl, q5⟩
    | true => exact ite_tt (chain_last (thn (hd.run pins s5 σ H5 _ I5 q5) fun w2 s6 ⟨z3, H6, I6, r6, q6⟩ => ho2 pins s6 σ H6 z' z3 w' w2 Q I6 r4 r6 q6))
end
section
variable {σ : L2.St} {H : Hp} {ta tb tc td te : TE} {x y z v : V}
theorem ev_chain {f g : Int → Int → Bool} {i j k : Int} (ha : Ev ta σ H (.int i)) (hb : Ev tb σ H (.int j)) (hc : f i j = true → Ev tc σ H (.int k)) :
    Ev (tChain (rI0 fun i j => .bl (f i j)) (rI0 fun i j => .bl (g i j)) ta tb tc) σ H (.bl (f i j && g j k)) := fun H1 e Q q =>
  ha H1 e _ fun H2 e2 => hb H2 (e.trans e2) _ fun H3 e3 => ⟨i, j, rfl, rfl, f i j, rfl, by
    cases hf : f i j with
    | true =>
      show tc σ H3 _
      refine hc hf H3 ((e.trans e2).trans e3) _ fun H4 e4 => ⟨j, k, rfl, rfl, ?_⟩
      have h := q H4 ((e2.trans e3).trans e4)
      rw [hf] at h
      exact h
    | false =>
      show Q (.bl false) H3
      have h := q H3 (e2.trans e3)
      rw [hf] at h
      exact h⟩
theorem ev_chain3 {f g h : Int → Int → Bool} {i j k l : Int} (ha : Ev ta σ H (.int i)) (hb : Ev tb σ H (.int j)) (hc : f i j = true → Ev tc σ H (.int k)) (hd : f i j = true → g j k = true → Ev td σ H (.int l)) :
    Ev (tChain3 (rI0 fun i j => .bl (f i j)) (rI0 fun i j => .bl (g i j)) (rI0 fun i j => .bl (h i j)) ta tb tc td) σ H (.bl (f i j && (g j k && h k l))) := fun H1 e Q q =>
  ha H1 e _ fun H2 e2 => hb H2 (e.trans e2) _ fun H3 e3 => ⟨i, j, rfl, rfl, f i j, rfl, by
    cases hf : f i j with
    | true =>
      show tc σ H3 _
      refine hc hf H3 ((e.trans e2).trans e3) _ fun H4 e4 => ⟨j, k, rfl, rfl, g j k, rfl, ?_⟩
      cases hg : g j k with
      | true =>
        show td σ H4 _
        refine hd hf hg H4 (((e.trans e2).trans e3).trans e4) _ fun H5 e5 => ⟨k, l, rfl, rfl, ?_⟩
        have q1 := q H5 (((e2.trans e3).trans e4).trans e5)
        rw [hf, hg] at q1
        exact q1
      | false =>
        show Q (.bl false) H4
        have q1 := q H4 ((e2.trans e3).trans e4)
        rw [hf, hg] at q1
        exact q1
    | false =>
      show Q (.bl false) H3
      have q1 := q H3 (e2.trans e3)
      rw [hf] at q1
      exact q1⟩
end

/-! ### len(set(xs)), xs a list of whole numbers -/
def nDis (ns : List Int) : Nat := (firstMet (fun i => ns.getD i 0) ns.length).length
theorem firstMet_full {ns : List Int} : ∀ i, i ≤ ns.length → (firstMet (fun i => ns.getD i 0) i).length = i → (ns.take i).Nodup
  | 0, _, _ => by simp
  | i + 1, hi, h => by
    have hlt : i < ns.length := hi
    have e1 : ns.getD i 0 = ns[i] := by
      rw [List.getD_eq_getElem?_getD, List.getElem?_eq_getElem hlt] <;> rfl
    have e2 : ns.take (i + 1) = ns.take i ++ [ns[i]] := by
      rw [List.take_add_one, List.getElem?_eq_getElem hlt] <;> rfl
    have hle := firstMet_length_le (fun i => ns.getD i 0) i
    rw [firstMet_succ, step_length] at h
    split at h
    · omega
    · rename_i hn
      have h2 : (firstMet (fun i => ns.getD i 0) i).length = i := by omega
      have ih := firstMet_full i (Nat.le_of_lt hlt) h2
      have hm : ns[i] ∉ ns.take i := fun hm => by
        refine hn ?_
        rw [firstMet_any]
        obtain ⟨j, hj⟩ := List.mem_iff_getElem?.mp hm
        rw [List.getElem?_take] at hj
        by_cases hji : j < i
        · rw [if_pos hji] at hj
          refine List.any_eq_true.mpr ⟨ns[i], List.mem_map.mpr ⟨j, List.mem_range.mpr hji, ?_⟩, beq_iff_eq.mpr e1.symm⟩
          rw [List.getD_eq_getElem?_getD, hj] <;> rfl
        · rw [if_neg hji] at hj
          cases hj
      rw [e2]
      exact List.nodup_append.mpr ⟨ih, by simp, fun a ha b hb => by
        simp only [List.mem_singleton] at hb
        subst hb
        exact fun e => hm (e ▸ ha)⟩
theorem firstMet_nd {ns : List Int} (hn : ns.Nodup) : ∀ i, i ≤ ns.length → firstMet (fun i => ns.getD i 0) i = ns.take i
  | 0, _ => rfl
  | i + 1, hi => by
    have hlt : i < ns.length := hi
    have e1 : ns.getD i 0 = ns[i] := by
      rw [List.getD_eq_getElem?_getD, List.getElem?_eq_getElem hlt] <;> rfl
    have e2 : ns.take (i + 1) = ns.take i ++ [ns[i]] := by
      rw [List.take_add_one, List.getElem?_eq_getElem hlt] <;> rfl
    rw [firstMet_succ, firstMet_nd hn i (Nat.le_of_lt hlt), e2, e1]
    unfold step_dedup
    refine if_neg fun h => ?_
    obtain ⟨x, hx, ex⟩ := List.any_eq_true.mp h
    have ex2 : x = ns[i] := eq_of_beq ex
    rw [ex2] at hx
    rw [← List.take_append_drop (i + 1) ns, e2] at hn
    have h1 := (List.nodup_append.mp (List.nodup_append.mp hn).1).2.2 _ hx _ (List.mem_singleton.mpr rfl)
    exact h1 rfl
theorem nDis_iff (ns : List Int) : nDis ns = ns.length ↔ ns.Nodup := by
  constructor
  · intro h
    have := firstMet_full (ns := ns) ns.length (Nat.le_refl _) h
    rwa [List.take_length] at this
  · intro h
    unfold nDis
    rw [firstMet_nd h ns.length (Nat.le_refl _), List.take_length]
theorem nDis_dec (ns : List Int) : decide (V.int (nDis ns : Nat) = V.int (ns.length : Nat)) = decide ns.Nodup := by
  apply decide_eq_decide.mpr
  rw [← nDis_iff]
  constructor
  · intro h
    injection h with h
    omega
  · intro h
    rw [h]
def tLenSet (K : PySem.W.Frag) (ta : TE) : TE := fun σ H Q => ta σ H fun x H1 => ∃ (l : Addr) (ns : List Int), x = V.ref l ∧ SqL K H1 l (ns.map V.int) ∧ ns.length ≤ 4000 ∧ Q (.int (nDis ns : Nat)) H1
section
variable {X : Cx}
theorem pe_lenSet {a : Expr} {ta : TE} {p p2 q pos : Pos} (hg : Gl X "len") (hm : X.mg "len" = none) (hg2 : Gl X "set") (hm2 : X.mg "set" = none) (ha : PE X a ta) (hc : X.calm = true := by rfl)
    (na : starEach [a] X.env = (false, eval a X.env) :: starEach [] X.env := by rfl) : PE X (.Call (.Name "len" p) [.Call (.Name "set" p2) [a] [] q] [] pos) (tLenSet X.K ta) := by
  refine ⟨fun pins s σ H Q I h => ?_⟩
  refine Call_ (ld_blt I hg hm PySem.boot_len ?_)
  refine PyProof.Rows.callWith_builtin1 (PyProof.Rows.args_cons ?_ rfl) rfl rfl
  refine Call_ (ld_blt I hg2 hm2 PyProof.Rows.boot_set ?_)
  refine PyProof.Rows.callWith_type1 (PyProof.Rows.args_cons (thn (ha.run pins s σ H _ I h) fun v s1 ⟨x, H1, I1, r1, q1⟩ => PyProof.Rows.args_nil ?_) na) na rfl
  obtain ⟨l, ns, rfl, hq, h1, q1⟩ := q1
  cases r1
  obtain ⟨its, r, pl, hz⟩ := I1.list hq
  have hl : its.toArray.size = ns.length := by rw [List.size_toArray, ← r.length, List.length_map]
  refine call_set_list (I1.ok.hd hc) pl.isList (ns := ns) (by simpa using ints_of_vals r) (by unfold scanBound; omega) fun h' tk hS hk => ?_
  rw [hl] at hS
  refine PyProof.Rows.args_nil ?_
  obtain ⟨o, es, ep, t, ho, hex, hd, _, _, _, hf, hn⟩ := hS
  have I2 : Inv X pins σ H1 { s1 with heap := h', toks := tk } := I1.kept fun b o e => hk b o (Heap.lt_size e) e
  have hle := firstMet_length_le (fun i => ns.getD i 0) ns.length
  refine call_len_set ho hex hd hf (by rw [hn] <;> omega) ⟨.int (nDis ns : Nat), H1, I2.tok _, ⟨_, by rw [hn] <;> rfl⟩, q1⟩
end
theorem ev_lenSet {K : PySem.W.Frag} {σ : L2.St} {H : Hp} {ta : TE} {l : Addr} {ns : List Int} (ha : Ev ta σ H (.ref l)) (hl : SqL K H l (ns.map V.int)) (hz : ns.length ≤ 4000) : Ev (tLenSet K ta) σ H (.int (nDis ns : Nat)) := fun H1 e Q q =>
  ha H1 e _ fun H2 e2 => ⟨l, ns, rfl, ex_l (e.trans e2) hl, hz, q H2 e2⟩
end SX
namespace SX
open PySem PySem.Spec PyProof.Rows L2 Evl

/-! ### set(xs) of a list of whole numbers: its members known -/
section
variable {P : Program} {w : World} {A : Around} {E : Value → Shared → Prop} {s : Shared}
/-- the empty set that set(..) begins with, at the heap's end -/
abbrev ns0 (w : World) : Obj := ⟨.type "set", none, .set #[] 0 (.fresh 0 0 (!w.params.followText "set-order")), #[]⟩
/-- what is known when the loop over the list has ended -/
def Filled (w : World) (s : Shared) (ns : List Int) (v : Value) (s2 : Shared) : Prop :=
  v = .none ∧ ∃ (h2 : Heap) (tk c : Nat), s2 = { s with heap := h2, toks := tk } ∧ SetR w h2 s.heap.objs.size (fun j => decide (j ∈ ns)) c ∧ c ≤ ns.length ∧ ∀ b o, s.heap.get? b = some o → h2.get? b = some o
theorem at_of_ints {items : Array Value} {ns : List Int} (hit : IntsAre items.toList ns) (hz : items.size = ns.length) (i : Nat) (v : Value) (hv : items[i]? = some v) : ∃ k t, ns[i]? = some k ∧ v = .int k t := by
  have hi : i < ns.length := hz ▸ (Array.getElem?_eq_some_iff.mp hv).1
  have hv2 : items.toList[i]? = some v := by rw [Array.getElem?_toList]; exact hv
  obtain ⟨t, e⟩ := IntsAre.int_at hit i v hv2
  have e2 : ns.getD i 0 = ns[i] := by rw [List.getD_eq_getElem?_getD, List.getElem?_eq_getElem hi] <;> rfl
  exact ⟨ns[i], t, List.getElem?_eq_getElem hi, e.trans (by rw [e2])⟩
theorem lt_ne1 {a b : Nat} (h : a < b) : a ≠ b + 1 := by omega
theorem nin2 {a b c : Nat} (h1 : a ≠ b) (h2 : a ≠ c) : a ∉ [b, c] := by simp [h1, h2]
/-- set.__init__ of the new set and the list -/
theorem fill_lst {l : Addr} {items : Array Value} {A2 : Around} (ns : List Int) (hh : A2.handled = none) (hl : s.heap.IsList l items) (hit : IntsAre items.toList ns) (hb : ns.length + 1 < scanBound) :
    wpAny (model P w) A2.in1 (Builtin.«set.__init__» ⟨[.ref s.heap.objs.size, .ref l], []⟩) (fun fin s' => match fin with | .done f => wants (Filled w s ns) E (.ok f) s' | .again c' => c'.quiet = true ∧ codeAny (model P w) A2 c' (wants (Filled w s ns) E) s') (fun e s' => wants (Filled w s ns) E (.error e) s')
      { s with heap := s.heap.push (ns0 w) } := by
  have hz : items.size = ns.length := (Array.length_toList (xs := items)).symm.trans (IntsAre.length hit)
  obtain ⟨⟨oc, od, dt, os⟩, ho, hcl, nl, hdl⟩ := hl
  simp only at hcl hdl
  subst hcl hdl
  have hS : (s.heap.push (ns0 w)).get? s.heap.objs.size = some (ns0 w) := Heap.get?_push_size _ rfl
  have hT : Shared.TypeIs { s with heap := s.heap.push (ns0 w) } (.ref s.heap.objs.size) "set" := ⟨_, hS, rfl⟩
  have ho2 := Heap.get?_push_of_some (ns0 w) ho
  have nd : (Value.type "list" == Value.type "dict") = false := by decide
  have f1 := F.sub_list_set
  have f2 := F.sub_list_frozenset
  have hL : (s.heap.push (ns0 w)).IsList l items := ⟨_, ho2, rfl, nl, rfl⟩
  unfold Builtin.«set.__init__» noKeywords Builtin.Frozenset.updateFrom
  generalize hp : pyIter = pit
  wp_walk
  subst hp
  refine wpAny_pyIter_list hL (wpAny_bind (wpAny_runValue ?_))
  have hlt : l < s.heap.objs.size := Heap.lt_size ho
  have zP : (s.heap.push (ns0 w)).objs.size = s.heap.objs.size + 1 := Heap.size_push ..
  have lI : l ≠ (s.heap.push (ns0 w)).objs.size := by rw [zP]; exact lt_ne1 hlt
  have nS : s.heap.objs.size ∉ [(s.heap.push (ns0 w)).objs.size, l] := by
    rw [zP]
    exact nin2 (Nat.ne_of_lt (Nat.lt_succ_self _)) (Nat.ne_of_gt hlt)
  have hG : ((s.heap.push (ns0 w)).push { cls := .type "list_iterator", data := .fields #[.ref l, .int 0 0] }).get? s.heap.objs.size = some (ns0 w) := Heap.get?_push_of_some _ hS
  refine set_update_ints ((Walks.list (by simp [hh]) _ l lI items).toS) s.heap.objs.size nS ns hz hb (at_of_ints hit hz) (items.size - 0) 0 _ (by omega) (Nat.zero_le _) ⟨⟨_, Heap.get?_push_size _ rfl, rfl, rfl⟩, hL.push _⟩ ⟨0, Nat.le_refl 0, setR_new_at hG⟩ ?_
  rintro ⟨h2, g2, d2, tk, os2⟩ c hm hc hR
  have e1 : g2 = s.gens := hm.gens
  have e2 : d2 = s.drawn := hm.drawn
  have e3 : os2 = s.os := hm.os
  subst e1 e2 e3
  rw [hz] at hc
  refine wpAny_pure (wpAny_pure ⟨rfl, h2, tk, c, rfl, hR, hc, fun b o e => hm.heap b o ?_ (Heap.get?_push_of_some _ (Heap.get?_push_of_some _ e))⟩)
  have hb0 : b < s.heap.objs.size := Heap.lt_size e
  rw [zP]
  exact nin2 (Nat.ne_of_lt hb0) (lt_ne1 hb0)
theorem call_set_lstR {l : Addr} {items : Array Value} (ns : List Int) {Q : Value → Shared → Prop} (hh : A.handled = none) (hl : s.heap.IsList l items) (hit : IntsAre items.toList ns) (hb : ns.length + 1 < scanBound)
    (h : ∀ (h' : Heap) (tk c : Nat), SetR w h' s.heap.objs.size (fun j => decide (j ∈ ns)) c → c ≤ ns.length → (∀ b o, s.heap.get? b = some o → h'.get? b = some o) → Q (.ref s.heap.objs.size) { s with heap := h', toks := tk }) :
    wpAny (model P w) A (call (.type "set") [.ref l]) Q E s := by
  have hS : (s.heap.push (ns0 w)).get? s.heap.objs.size = some (ns0 w) := Heap.get?_push_size _ rfl
  have hT : Shared.TypeIs { s with heap := s.heap.push (ns0 w) } (.ref s.heap.objs.size) "set" := ⟨_, hS, rfl⟩
  have ft := F.called_set
  obtain ⟨mc, mt, m1⟩ := ft.mro
  have m2 := ft.made
  have m3 := ft.sub
  have m4 := ft.notType
  have m5 := ft.canCreate
  have m6 := ft.init.lookup
  have m7 := ft.init.bind (.ref s.heap.objs.size)
  have m8 := F.typeCall_set_1 (.ref l)
  refine wpAny_call (codeAny_of_tree (wpAny_pure ⟨Code.quiet_builtin _ (by decide +kernel), codeAny_builtin F.entry_type_call ?_⟩))
  rw [Around.under_plain (weight_type_call_type "set" [.ref l] []) rfl]
  repeat (any_goals (first | assumption | wp_step))
  refine codeAny_mono (code_set_led1 (.ref l) (E := E) (Q₁ := fun v s1 => v = .ref s.heap.objs.size ∧ s1 = { s with heap := s.heap.push (ns0 w) }) ⟨rfl, rfl⟩) fun r s1 hr => ?_
  cases r with
  | error e => exact hr
  | ok f =>
    cases f with
    | ret v =>
      obtain ⟨rfl, rfl⟩ := hr
      repeat (any_goals (first | assumption | wp_step))
      refine codeAny_mono (codeAny_call_builtin (R := wants (Filled w s ns) E) ft.init.plain F.entry_set_init (check_set_init_1 hT (fill_lst ns (by simp [hh]) hl hit hb))) fun r2 s2 hr2 => ?_
      cases r2 with
      | error e => exact hr2
      | ok f2 =>
        cases f2 with
        | ret v =>
          obtain ⟨rfl, h2, tk, c, rfl, hR, hc, hk⟩ := hr2
          repeat (any_goals (first | assumption | wp_step))
          exact h h2 tk c hR hc hk
        | _ => exact hr2.elim
    | _ => exact hr.elim
end
/-! ### sorted(set(xs)) -/
def tSortSet (K : PySem.W.Frag) (ta : TE) : TE := fun σ H Q => ta σ H fun x H1 => ∃ (l : Addr) (ns : List Int), x = V.ref l ∧ SqL K H1 l (ns.map V.int) ∧ ns.length < 64 ∧
  ∀ (ms : List Int) (p : Addr), ms.Pairwise (· < ·) → (∀ k, k ∈ ms ↔ k ∈ ns) → ms.length ≤ ns.length → H1 p = none → Q (.ref p) (upd H1 p (.lst (ms.map V.int)))
section
variable {X : Cx}
theorem pe_sortSet {a : Expr} {ta : TE} {p p2 q pos : Pos} (hg : Gl X "sorted") (hm : X.mg "sorted" = none) (hg2 : Gl X "set") (hm2 : X.mg "set" = none) (ha : PE X a ta) (hc : X.calm = true := by rfl)
    (na : starEach [a] X.env = (false, eval a X.env) :: starEach [] X.env := by rfl) : PE X (.Call (.Name "sorted" p) [.Call (.Name "set" p2) [a] [] q] [] pos) (tSortSet X.K ta) := by
  refine ⟨fun pins s σ H Q I h => ?_⟩
  refine Call_ (ld_blt I hg hm (by decide +kernel : bootBuiltins "sorted" = some (.builtin "sorted")) ?_)
  refine PyProof.Rows.callWith_builtin1 (PyProof.Rows.args_cons ?_ rfl) rfl rfl
  refine Call_ (ld_blt I hg2 hm2 PyProof.Rows.boot_set ?_)
  refine PyProof.Rows.callWith_type1 (PyProof.Rows.args_cons (thn (ha.run pins s σ H _ I h) fun v s1 ⟨x, H1, I1, r1, q1⟩ => PyProof.Rows.args_nil ?_) na) na rfl
  obtain ⟨l, ns, rfl, hq, h1, q1⟩ := q1
  cases r1
  obtain ⟨its, r, pl, hz⟩ := I1.list hq
  refine call_set_lstR ns (I1.ok.hd hc) pl.isList (by simpa using ints_of_vals r) (by unfold scanBound; omega) fun h' tk c R hcn hk => ?_
  refine PyProof.Rows.args_nil ?_
  have I2 : Inv X pins σ H1 { s1 with heap := h', toks := tk } := I1.kept hk
  have hlt : s1.heap.objs.size < h'.objs.size := R.lt
  refine sorted_set R (I2.ok.hd hc) (by omega) fun s' p out c2 ms k g o hp hgt hi hs hm2 hl => ?_
  have hlen : (ms.map V.int).length ≤ sizeLine := by rw [List.length_map, hl, sizeLine_eq]; omega
  have hn : H1 p = none := I2.hok.fresh hp
  have J : Inv X pins σ (upd H1 p (.lst (ms.map V.int))) { ({ s1 with heap := h', toks := tk } : Shared) with heap := s'.heap, gens := s'.gens, drawn := s'.drawn, toks := s'.toks } :=
    I2.call (ch := []) (Un.laid k hp hn) (I2.hok.laid k hp ⟨hlen, out.toList, c2, vals_of_ints hi, hgt⟩) (by rw [g]; exact I2.bare) (fun _ z => nomatch z)
  have e : s' = { ({ s1 with heap := h', toks := tk } : Shared) with heap := s'.heap, gens := s'.gens, drawn := s'.drawn, toks := s'.toks } := by
    cases s'
    cases s1
    cases o
    rfl
  rw [e]
  exact ⟨.ref p, _, J, rfl, q1 ms p hs (fun z => (hm2 z).trans decide_eq_true_iff) (by omega) hn⟩
end

/-! ### list(range(a, b, c)) -/
def rgC (a c : Int) (n : Nat) : List Int := (List.range n).map fun i => a + (i : Nat) * c
def tLstRg3 (ta : TA) : TE := fun σ H Q => ta σ H fun vs H1 => ∃ (i j c : Int) (n : Nat), vs = [.int i, .int j, .int c] ∧ RgC i j c n ∧ n ≤ 2 ^ 20 ∧ ∀ q, H1 q = none → Q (.ref q) (upd H1 q (.lst ((rgC i c n).map V.int)))
theorem vals_rgC {a c : Int} {n : Nat} {acc : Array Value} (h : ItemsOf (fun i v => ∃ t, v = .int (a + i * c) t) acc n) : Vals ((rgC a c n).map V.int) acc.toList := by
  have e : acc.toList.length = n := by rw [Array.length_toList]; exact h.1
  unfold rgC
  rw [← e, List.map_map]
  refine vals_of_get acc.toList _ fun j u hj => ?_
  obtain ⟨t, rfl⟩ := h.2 j u (by rw [← hj, Array.getElem?_toList])
  exact ⟨t, rfl⟩
section
variable {X : Cx}
theorem pe_listRg3 {a b c : Expr} {ta : TA} {p p2 q pos : Pos} (hg : Gl X "list") (hm : X.mg "list" = none) (hg2 : Gl X "range") (hm2 : X.mg "range" = none) (ha : PA X [a, b, c] ta) (hc : X.calm = true := by rfl)
    (hs : starEach [a, b, c] X.env = (false, eval a X.env) :: starEach [b, c] X.env := by rfl) (hpl : (backTo q (starEach [b, c] X.env)).any (·.1) = false := by rfl) :
    PE X (.Call (.Name "list" p) [.Call (.Name "range" p2) [a, b, c] [] q] [] pos) (tLstRg3 ta) := by
  refine ⟨fun pins s σ H Q I h => ?_⟩
  refine Call_ (ld_blt I hg hm boot_list (PyProof.Rows.callWith_type1 (args_cons ?_ rfl) rfl rfl))
  refine Call_ (ld_blt I hg2 hm2 boot_range (PyProof.Rows.callWith_type1 (thn (ha.run q pins s σ H _ I h) fun us s1 ⟨vs, H1, I1, r1, q1⟩ => ?_) hs hpl))
  obtain ⟨i, j, k, n, e, ⟨c0, c1, c2, c3⟩, hn, q2⟩ := q1
  subst e
  cases r1 with
  | cons r rr =>
    cases rr with
    | cons r' rr =>
      cases rr with
      | cons r'' rr =>
        cases rr
        obtain ⟨t, rfl⟩ := r
        obtain ⟨t', rfl⟩ := r'
        obtain ⟨t'', rfl⟩ := r''
        refine call_range_3 c0 ?_ (.inl (PyProof.noPylong_small c1))
        refine args_nil ?_
        have I2 : Inv X pins σ H1 { s1 with heap := s1.heap.push { cls := .type "range", data := .fields #[.int i t, .int j t', .int k t''] } } := I1.kept (t' := s1.toks) fun b o e => Heap.get?_push_of_some _ e
        refine call_list_range (n := n) (I2.ok.hd hc) (IsRange.new ..) c2 c3 (by omega) fun h' tk acc c' hk e' hi => ?_
        have hz : ((rgC i k n).map V.int).length ≤ sizeLine := by
          rw [List.length_map]
          unfold rgC
          rw [List.length_map, List.length_range, sizeLine_eq]
          omega
        refine ⟨.ref _, upd H1 _ (.lst ((rgC i k n).map V.int)), I2.laid (t' := tk) hk (Nat.le_refl _) (show ObjOk X.prog X.w _ _ _ (.lst ((rgC i k n).map V.int)) from ⟨hz, acc.toList, c', vals_rgC hi, ?_⟩), rfl, q2 _ (I2.hok.fresh (Nat.le_refl _))⟩
        rw [Array.toArray_toList]; exact e'
end

/-! ### C() where there is no __init__ but object's -/
structure MkO (K : PySem.W.Frag) (C : Addr) : Prop where
  makes : PySem.W.makesIn K C = true
  init : PySem.W.findIn K (.ref C) "__init__" = some (some (.builtin "object.__init__"))
  kp : PySem.W.keepIn K (.ref C) = true
def tMakeO (C : Addr) : TE := fun _ H Q => ∀ x dx, H x = none → H dx = none → dx ≠ x → Q (.ref x) (upd (upd H dx (.own x)) x (.ins C dx []))
section
variable {X : Cx} {C : Addr}
theorem pe_makeO {x : Str} {p pos : Pos} (M : MkO X.K C) (hg : Gl X x) (hm : X.mg x = some (.ref C)) (hdb : (x == ("__debug__" : Str)) = false := by decide) : PE X (.Call (.Name x p) [] [] pos) (tMakeO C) := by
  refine ⟨fun pins s σ H Q I h => ?_⟩
  refine wpAny_Call_Name_kw (ld_glob I hg hm ?_ hdb)
  refine PySem.W.callWith_K0 I.kIn M.kp (wpAny_call ?_)
  have hq := h (s.heap.objs.size + 1) s.heap.objs.size (I.hok.fresh (Nat.le_succ _)) (I.hok.fresh (Nat.le_refl _)) (Nat.ne_of_lt (Nat.lt_succ_self _))
  have I2 := Inv.made (C := C) I
  have KX := I.kIn
  refine make_map0 KX M.makes M.init (fun self => PySem.W.Looks.of_pure (PySem.W.oi_bind self)) ?_
  have Y := PySem.W.makes_of (M := model X.prog X.w) KX M.makes
  have hx : ((s.heap.push PySem.W.emptyDict).push (PySem.W.instObj C s.heap.objs.size)).get? (s.heap.objs.size + 1) = some (PySem.W.instObj C s.heap.objs.size) := by heap_get
  have t1 : PySem.W.Looks (model X.prog X.w) ((s.heap.push PySem.W.emptyDict).push (PySem.W.instObj C s.heap.objs.size)) (typeOf (.ref (s.heap.objs.size + 1))) (.ref C) := (PySem.W.Looks.ld hx).andThen .now
  have t2 : PySem.W.Looks (model X.prog X.w) ((s.heap.push PySem.W.emptyDict).push (PySem.W.instObj C s.heap.objs.size)) (isInstance (.ref (s.heap.objs.size + 1)) (.type "object")) true := t1.andThen (Y.top.keeps fun b o e => Heap.get?_push_of_some _ (Heap.get?_push_of_some _ e))
  refine codeAny_call_builtin PySem.W.oi_plain PySem.W.entry_oi (@PySem.W.check_slot (model X.prog X.w) _ _ _ "object.__init__" "object" "__init__" (.ref (s.heap.objs.size + 1)) [] [] _ PySem.W.oi_kind PySem.W.oi_split t2 (PySem.W.oi_args (.ref (s.heap.objs.size + 1))) ?_)
  rw [PySem.W.oi_run]
  exact wpAny_pure (And.intro rfl ⟨.ref (s.heap.objs.size + 1), _, I2, rfl, hq⟩)
end
end SX

namespace SX
open PySem PySem.Spec PyProof.Rows L2 Evl

/-! ### a def as the top has left it -/
structure Dfn (K : PySem.W.Frag) (mg : Str → Option Value) (x qual : Str) (st : Stmt) (ps : List Str) (f : Addr) (fd : FuncData) : Prop where
  F : Fun K x qual st f fd
  g : mg x = some (.ref f)
  b : Binds K fd ps []

/-! ### conditions -/
theorem cdiv_small {i j : Int} (h : 0 < j) (h2 : j < 18446744073709551616) : CDivW i j := wide_div (b := 64) h (by omega) (by decide) (by decide)
theorem cmul_l {i j : Int} (h : -18446744073709551616 < i) (h2 : i < 18446744073709551616) : CMul i j := .inl ⟨by omega, by omega⟩
theorem cmul_r {i j : Int} (h : -18446744073709551616 < j) (h2 : j < 18446744073709551616) : CMul i j := .inr ⟨by omega, by omega⟩
theorem cpow_c {i j : Int} (h : 0 ≤ j) (h1 : j ≤ 1000000) (h2 : i.natAbs < 18446744073709551616) : CPow i j := ⟨h, h1, by omega⟩

/-! ### data -/
theorem shaped_ints (ns : List Int) : SeqAt.shaped (.list (ns.map PyData.int)) = true := by
  simp [SeqAt.shaped, PyData.canLay0, PyData.depth, PySem.W.ke_canLayAll0, PySem.W.ke_depthAll]
theorem shaped_tints (ns : List Int) : SeqAt.shaped (.tuple (ns.map PyData.int)) = true := by
  simp [SeqAt.shaped, PyData.canLay0, PyData.depth, PySem.W.ke_canLayAll0, PySem.W.ke_depthAll]
theorem dpAll_ints {K : PySem.W.Frag} {H : Hp} : ∀ ns : List Int, DpAll K H (ns.map V.int) (ns.map PyData.int)
  | [] => .nil
  | n :: r => .cons (.int n) (dpAll_ints r)
theorem eqv_lints (ns ms : List Int) : PyData.eqv (.list (ns.map PyData.int)) (.list (ms.map PyData.int)) = decide (ns = ms) := by
  rw [PyData.eqv]
  exact PySem.W.ked_eqvAll ns ms
theorem eqv_tints (ns ms : List Int) : PyData.eqv (.tuple (ns.map PyData.int)) (.tuple (ms.map PyData.int)) = decide (ns = ms) := by
  rw [PyData.eqv]
  exact PySem.W.ked_eqvAll ns ms
end SX
namespace SX
open PySem PySem.Spec PyProof.Rows L2 Evl
section
variable {K : PySem.W.Frag} {σ : L2.St} {H H' : Hp} {ta tb te : TE} {x y z v : V}
theorem rv_neLL {a b : Addr} {ns ms : List Int} (h1 : SqL K H a (ns.map V.int)) (h2 : SqL K H b (ms.map V.int)) : RV (rNeD K) (.ref a) (.ref b) H (.bl (!decide (ns = ms))) := fun H1 e Q q =>
  ⟨_, _, .lst (ex_l e h1) (dpAll_ints ns), .lst (ex_l e h2) (dpAll_ints ms), shaped_ints ns, shaped_ints ms, by rw [eqv_lints]; exact q H1 (Ex.refl H1)⟩
theorem rv_eqLL {a b : Addr} {ns ms : List Int} (h1 : SqL K H a (ns.map V.int)) (h2 : SqL K H b (ms.map V.int)) : RV (rEqD K) (.ref a) (.ref b) H (.bl (decide (ns = ms))) := fun H1 e Q q =>
  ⟨_, _, .lst (ex_l e h1) (dpAll_ints ns), .lst (ex_l e h2) (dpAll_ints ms), shaped_ints ns, shaped_ints ms, by rw [eqv_lints]; exact q H1 (Ex.refl H1)⟩
theorem rv_neTT {a b : Addr} {ns ms : List Int} (h1 : SqT K H a (ns.map V.int)) (h2 : SqT K H b (ms.map V.int)) : RV (rNeD K) (.ref a) (.ref b) H (.bl (!decide (ns = ms))) := fun H1 e Q q =>
  ⟨_, _, .tup (ex_t e h1) (dpAll_ints ns), .tup (ex_t e h2) (dpAll_ints ms), shaped_tints ns, shaped_tints ms, by rw [eqv_tints]; exact q H1 (Ex.refl H1)⟩
theorem rv_eqTT {a b : Addr} {ns ms : List Int} (h1 : SqT K H a (ns.map V.int)) (h2 : SqT K H b (ms.map V.int)) : RV (rEqD K) (.ref a) (.ref b) H (.bl (decide (ns = ms))) := fun H1 e Q q =>
  ⟨_, _, .tup (ex_t e h1) (dpAll_ints ns), .tup (ex_t e h2) (dpAll_ints ms), shaped_tints ns, shaped_tints ms, by rw [eqv_tints]; exact q H1 (Ex.refl H1)⟩

/-! ### isinstance -/
theorem rc_isi {t u : Value} {c : V} {b : Bool} (hc : ClsV c u) (ht : ∀ H1, Ex H H1 → TyX K H1 x t) (hk : PySem.W.kitOne K t u = some b) : RC (rIsi K) [x, c] H (.bl b) := fun H1 e Q q =>
  ⟨x, c, t, u, b, rfl, hc, ht H1 e, hk, q H1 (Ex.refl H1)⟩
theorem rc_isiInt {i : Int} {n : String} {b : Bool} (hk : kitB "int" n = some b) : RC (rIsi K) [.int i, .ty n] H (.bl b) := rc_isi (.ty n) (fun _ _ => .base (.int i)) (kit_ty hk)
theorem rc_isiBl {i : Bool} {n : String} {b : Bool} (hk : kitB "bool" n = some b) : RC (rIsi K) [.bl i, .ty n] H (.bl b) := rc_isi (.ty n) (fun _ _ => .base (.bl i)) (kit_ty hk)
theorem rc_isiTup {p : Addr} {xs : List V} {n : String} {b : Bool} (h : H p = some (.tup xs)) (hk : kitB "tuple" n = some b) : RC (rIsi K) [.ref p, .ty n] H (.bl b) := rc_isi (.ty n) (fun H1 e => .base (.tup (e p _ h))) (kit_ty hk)

/-! ### len, sum -/
theorem ev_lenT {p : Addr} {xs : List V} (ha : Ev ta σ H (.ref p)) (h : SqT K H p xs) : Ev (tCB (fun xs H Q => ∃ p ys, xs = [.ref p] ∧ (SqL K H p ys ∨ SqT K H p ys) ∧ Q (.int ys.length) H) (tCons ta tNil)) σ H (.int (xs.length : Int)) := fun H1 e Q q =>
  ha H1 e _ fun H2 e2 => ⟨p, xs, rfl, Or.inr (ex_t (e.trans e2) h), q H2 e2⟩
theorem ev_lenL {p : Addr} {xs : List V} (ha : Ev ta σ H (.ref p)) (h : SqL K H p xs) : Ev (tCB (fun xs H Q => ∃ p ys, xs = [.ref p] ∧ (SqL K H p ys ∨ SqT K H p ys) ∧ Q (.int ys.length) H) (tCons ta tNil)) σ H (.int (xs.length : Int)) := fun H1 e Q q =>
  ha H1 e _ fun H2 e2 => ⟨p, xs, rfl, Or.inl (ex_l (e.trans e2) h), q H2 e2⟩
theorem ev_lenI {p : Addr} {ns : List Int} (ha : Ev ta σ H (.ref p)) (h : SqL K H p (ns.map V.int)) : Ev (tCB (fun xs H Q => ∃ p ys, xs = [.ref p] ∧ (SqL K H p ys ∨ SqT K H p ys) ∧ Q (.int ys.length) H) (tCons ta tNil)) σ H (.int (ns.length : Int)) := by
  have h2 := ev_lenL ha h
  rw [List.length_map] at h2
  exact h2
theorem ev_lenTI {p : Addr} {ns : List Int} (ha : Ev ta σ H (.ref p)) (h : SqT K H p (ns.map V.int)) : Ev (tCB (fun xs H Q => ∃ p ys, xs = [.ref p] ∧ (SqL K H p ys ∨ SqT K H p ys) ∧ Q (.int ys.length) H) (tCons ta tNil)) σ H (.int (ns.length : Int)) := by
  have h2 := ev_lenT ha h
  rw [List.length_map] at h2
  exact h2
theorem ev_sum {p : Addr} {ns : List Int} (ha : Ev ta σ H (.ref p)) (h : SqL K H p (ns.map V.int)) : Ev (tCB (rSum K) (tCons ta tNil)) σ H (.int ns.sum) := fun H1 e Q q =>
  ha H1 e _ fun H2 e2 => ⟨p, ns, rfl, ex_l (e.trans e2) h, q H2 e2⟩
theorem ev_sumN {ns : List Int} (ha : EvL ta σ H (ns.map V.int)) : Ev (tCB (rSum K) (tCons ta tNil)) σ H (.int ns.sum) := fun H1 e Q q =>
  ha H1 e _ fun p H2 _ e2 hp => ⟨p, ns, rfl, sq_of hp, q H2 e2⟩

/-! ### what evaluates to something of which P holds -/
def Mono (P : V → Hp → Prop) : Prop := ∀ v H H', Ex H H' → P v H → P v H'
def MonoA (P : List V → Hp → Prop) : Prop := ∀ v H H', Ex H H' → P v H → P v H'
def EvP (te : TE) (σ : L2.St) (H : Hp) (P : V → Hp → Prop) : Prop := ∀ H1, Ex H H1 → ∀ Q : VK, (∀ v H2, Ex H1 H2 → P v H2 → Q v H2) → te σ H1 Q
def EvAP (ta : TA) (σ : L2.St) (H : Hp) (P : List V → Hp → Prop) : Prop := ∀ H1, Ex H H1 → ∀ Q : List V → Hp → Prop, (∀ v H2, Ex H1 H2 → P v H2 → Q v H2) → ta σ H1 Q
theorem EvP.mono {P : V → Hp → Prop} (e : Ex H H') (h : EvP te σ H P) : EvP te σ H' P := fun H1 a Q q => h H1 (e.trans a) Q q
theorem EvP.imp {P P' : V → Hp → Prop} (h : EvP te σ H P) (i : ∀ v H1, Ex H H1 → P v H1 → P' v H1) : EvP te σ H P' := fun H1 a Q q => h H1 a Q fun v H2 e p => q v H2 e (i v H2 (a.trans e) p)
theorem evp_ev {P : V → Hp → Prop} (h : Ev te σ H v) (hp : ∀ H1, Ex H H1 → P v H1) : EvP te σ H P := fun H1 e Q q => h H1 e Q fun H2 e2 => q v H2 e2 (hp H2 (e.trans e2))
theorem evp_evL {P : V → Hp → Prop} {xs : List V} (h : EvL te σ H xs) (hp : ∀ p H1, Ex H H1 → H1 p = some (.lst xs) → P (.ref p) H1) : EvP te σ H P := fun H1 e Q q => h H1 e Q fun p H2 _ e2 h2 => q (.ref p) H2 e2 (hp p H2 (e.trans e2) h2)
theorem evp_evU {P : V → Hp → Prop} {xs : List V} (h : EvU te σ H xs) (hp : ∀ p H1, Ex H H1 → H1 p = some (.tup xs) → P (.ref p) H1) : EvP te σ H P := fun H1 e Q q => h H1 e Q fun p H2 _ e2 h2 => q (.ref p) H2 e2 (hp p H2 (e.trans e2) h2)
/-- a list of xs stands there -/
def IsL (K : PySem.W.Frag) (xs : List V) : V → Hp → Prop := fun v H => ∃ a, v = .ref a ∧ SqL K H a xs
theorem IsL.mono {xs : List V} : Mono (IsL K xs) := fun _ _ _ e ⟨a, h, q⟩ => ⟨a, h, ex_l e q⟩
theorem evp_L {a : Addr} {xs : List V} (h : Ev te σ H (.ref a)) (hx : SqL K H a xs) : EvP te σ H (IsL K xs) := evp_ev h fun _ e => ⟨a, rfl, ex_l e hx⟩
theorem evp_NL {xs : List V} (h : EvL te σ H xs) : EvP te σ H (IsL K xs) := evp_evL h fun p _ _ hp => ⟨p, rfl, sq_of hp⟩
/-- a tuple of these ints stands there -/
def IsT (ns : List Int) : V → Hp → Prop := fun v H => ∃ a, v = .ref a ∧ H a = some (.tup (ns.map V.int))
theorem IsT.mono {ns : List Int} : Mono (IsT ns) := fun _ _ _ e ⟨a, h, q⟩ => ⟨a, h, e a _ q⟩
theorem evp_T {ta : TA} {vs : List V} (ns : List Int) (h : EvA ta σ H vs) (e : vs = ns.map V.int) (hl : ns.length ≤ 100000) : EvP (tTup ta) σ H (IsT ns) := by
  subst e
  exact evp_evU (eu_tup h (by rw [List.length_map]; exact hl)) fun p _ _ hp => ⟨p, rfl, hp⟩
/-- a pair of two such -/
def PairT : V → Hp → Prop := fun v H => ∃ p x y as bs, v = .ref p ∧ H p = some (.tup [x, y]) ∧ IsT as x H ∧ IsT bs y H
theorem PairT.mono : Mono PairT := fun _ _ _ e ⟨p, x, y, as, bs, h, q, h1, h2⟩ => ⟨p, x, y, as, bs, h, e p _ q, IsT.mono _ _ _ e h1, IsT.mono _ _ _ e h2⟩
theorem eap_nil : EvAP tNil σ H (fun vs _ => vs = []) := fun H1 _ _ q => q [] H1 (Ex.refl H1) rfl
theorem eap_cons {tr : TA} {P : V → Hp → Prop} {R : List V → Hp → Prop} (h : EvP te σ H P) (hr : EvAP tr σ H R) (m : Mono P) : EvAP (tCons te tr) σ H (fun vs H => ∃ x r, vs = x :: r ∧ P x H ∧ R r H) := fun H1 e Q q =>
  h H1 e _ fun v H2 e2 hp => hr H2 (e.trans e2) _ fun vs H3 e3 hR => q _ H3 (e2.trans e3) ⟨v, vs, rfl, m _ _ _ e3 hp, hR⟩
theorem eap_ea {ta : TA} {vs : List V} {R : List V → Hp → Prop} (h : EvA ta σ H vs) (hR : ∀ H1, Ex H H1 → R vs H1) : EvAP ta σ H R := fun H1 e Q q => h H1 e Q fun H2 e2 => q vs H2 e2 (hR H2 (e.trans e2))
theorem evp_pair {t1 t2 : TE} {as bs : List Int} (h1 : EvP t1 σ H (IsT as)) (h2 : EvP t2 σ H (IsT bs)) : EvP (tTup (tCons t1 (tCons t2 tNil))) σ H PairT := fun H1 e Q q =>
  h1 H1 e _ fun x H2 e2 p1 => h2 H2 (e.trans e2) _ fun y H3 e3 p2 => ⟨by show 2 ≤ sizeLine; decide, fun p hp => q _ _ ((e2.trans e3).trans (Ex.new hp)) ⟨p, x, y, as, bs, rfl, upd_same, IsT.mono _ _ _ (e3.trans (Ex.new hp)) p1, IsT.mono _ _ _ (Ex.new hp) p2⟩⟩
/-- n things of which P holds -/
def AllN (P : V → Hp → Prop) (n : Nat) : List V → Hp → Prop := fun vs H => vs.length = n ∧ ∀ x ∈ vs, P x H
theorem AllN.mono {P : V → Hp → Prop} {n : Nat} (m : Mono P) : MonoA (AllN P n) := fun _ _ _ e ⟨h, q⟩ => ⟨h, fun x hx => m _ _ _ e (q x hx)⟩
theorem eal_nil {P : V → Hp → Prop} : EvAP tNil σ H (AllN P 0) := fun H1 _ _ q => q [] H1 (Ex.refl H1) ⟨rfl, fun x hx => absurd hx (by simp)⟩
theorem eal_cons {tr : TA} {P : V → Hp → Prop} {n : Nat} (m : Mono P) (h : EvP te σ H P) (hr : EvAP tr σ H (AllN P n)) : EvAP (tCons te tr) σ H (AllN P (n + 1)) := fun H1 e Q q =>
  h H1 e _ fun v H2 e2 hp => hr H2 (e.trans e2) _ fun vs H3 e3 hR => q _ H3 (e2.trans e3) ⟨by rw [List.length_cons, hR.1], fun x hx => by
    rcases List.mem_cons.mp hx with z | z
    · subst z; exact m _ _ _ e3 hp
    · exact hR.2 x z⟩
/-- a new list of n such things -/
def LstN (P : V → Hp → Prop) (n : Nat) : V → Hp → Prop := fun v H => ∃ p xs, v = .ref p ∧ H p = some (.lst xs) ∧ AllN P n xs H
theorem LstN.mono {P : V → Hp → Prop} {n : Nat} (m : Mono P) : Mono (LstN P n) := fun _ _ _ e ⟨p, xs, h, q, a⟩ => ⟨p, xs, h, e p _ q, AllN.mono m _ _ _ e a⟩
theorem evp_lst {ta : TA} {P : V → Hp → Prop} {n : Nat} (m : Mono P) (h : EvAP ta σ H (AllN P n)) (hn : n ≤ 100000) : EvP (tLst ta) σ H (LstN P n) := fun H1 e Q q =>
  h H1 e _ fun vs H2 e2 hR => ⟨sz_of (by rw [hR.1]; exact hn), fun p hp => q _ _ (e2.trans (Ex.new hp)) ⟨p, vs, rfl, upd_same, AllN.mono m _ _ _ (Ex.new hp) hR⟩⟩
theorem evp_cat {P : V → Hp → Prop} {n k : Nat} (m : Mono P) (h1 : EvP ta σ H (LstN P n)) (h2 : EvP tb σ H (LstN P k)) (hn : n + k ≤ 100000) : EvP (tOp rCat ta tb) σ H (LstN P (n + k)) := fun H1 e Q q =>
  h1 H1 e _ fun v H2 e2 ⟨a, xs, ea, ha, hA⟩ => h2 H2 (e.trans e2) _ fun w H3 e3 ⟨b, ys, eb, hb, hB⟩ => by
    subst ea eb
    have hA3 := AllN.mono m _ _ _ e3 hA
    refine ⟨a, b, xs, ys, rfl, rfl, e3 a _ ha, hb, sz_of (by rw [hA.1, hB.1]; exact hn), fun p hp => q _ _ ((e2.trans e3).trans (Ex.new hp)) ⟨p, xs ++ ys, rfl, upd_same, by rw [List.length_append, hA.1, hB.1], fun x hx => ?_⟩⟩
    rcases List.mem_append.mp hx with z | z
    · exact m _ _ _ (Ex.new hp) (hA3.2 x z)
    · exact m _ _ _ (Ex.new hp) (hB.2 x z)
/-- a call, a method, a class made, their arguments of a kind -/
theorem ev_callP {sp : Sp} {dvs : List V} {E : XK} {ta : TA} {R : List V → Hp → Prop} (h : EvAP ta σ H R) (hs : ∀ vs H2, Ex H H2 → R vs H2 → SpV sp (vs ++ dvs) H2 z) : Ev (tCall sp dvs E ta) σ H z := fun H1 e Q q =>
  h H1 e _ fun vs H2 e2 hR => hs vs H2 (e.trans e2) hR H2 (Ex.refl H2) Q (fun H3 e3 => q H3 (e2.trans e3)) E
theorem ev_methP {sp : Sp} {dvs : List V} {E : XK} {C : Addr} {m : Str} {to : TE} {ta : TA} {P : V → Hp → Prop} {R : List V → Hp → Prop} (ho : EvP to σ H P) (ha : EvAP ta σ H R) (mo : Mono P)
    (hi : ∀ x H1, P x H1 → ∃ a dx fs, x = .ref a ∧ H1 a = some (.ins C dx fs) ∧ fs.lookup m = none) (hs : ∀ x vs H2, Ex H H2 → P x H2 → R vs H2 → SpV sp (x :: (vs ++ dvs)) H2 z) : Ev (tMeth C m sp dvs E to ta) σ H z := fun H1 e Q q =>
  ho H1 e _ fun x H2 e2 hp => by
    obtain ⟨a, dx, fs, ea, h1, h2⟩ := hi x H2 hp
    refine ⟨a, dx, fs, ea, h1, h2, ha H2 (e.trans e2) _ fun vs H3 e3 hR => ?_⟩
    exact hs x vs H3 ((e.trans e2).trans e3) (mo _ _ _ e3 hp) hR H3 (Ex.refl H3) Q (fun H4 e4 => q H4 ((e2.trans e3).trans e4)) E
theorem ev_fld {C dx a : Addr} {fs : List (Str × V)} {f : Str} (h : Ev te σ H (.ref a)) (ho : H a = some (.ins C dx fs)) (hc : Cls K C) (hn : NoAttr K C f) (hl : fs.lookup f = some v) : Ev (tFld K te f) σ H v := fun H1 e Q q =>
  h H1 e _ fun H2 e2 => ⟨a, C, dx, fs, v, rfl, e2 a _ (e a _ ho), hc, hn, hl, q H2 e2⟩
/-! ### statements -/
variable {D : Ends} {tu tw tz : TS} {g : TG}
theorem s_asgP {i : Nat} {P : V → Hp → Prop} (h : EvP te σ H P) (k : ∀ v H1, Ex H H1 → P v H1 → D.nx (σ.set i (some v)) H1) : tAsg te (gName i) D σ H := h H (Ex.refl H) _ fun v H1 e p => k v H1 e p
theorem q_asgP {i : Nat} {P : V → Hp → Prop} (h : EvP te σ H P) (k : ∀ v H1, Ex H H1 → P v H1 → tz D (σ.set i (some v)) H1) : tSeq (tAsg te (gName i)) tz D σ H := s_asgP (D := { D with nx := tz D }) h k
theorem s_retP {P : V → Hp → Prop} (h : EvP te σ H P) (k : ∀ v H1, Ex H H1 → P v H1 → D.rt v H1) : tRet te D σ H := h H (Ex.refl H) _ k
/-- a, b = t -/
theorem g_two {p : Addr} {x y : V} {i j : Nat} {Q : L2.St → Hp → Prop} (hp : SqT K H p [x, y]) (q : Q ((σ.set i (some x)).set j (some y)) H) : gTup K 2 (gCons (gName i) (gCons (gName j) gNil)) (.ref p) σ H Q :=
  ⟨p, [x, y], rfl, hp, rfl, x, [y], rfl, y, [], rfl, rfl, q⟩
/-- for x in xs, the list of a kind -/
theorem s_forP {tl : TE} {P : V → Hp → Prop} (h : EvP tl σ H P) (k : ∀ v H1, Ex H H1 → P v H1 → ∃ (a : Addr) (xs : List V) (Pv : Nat → L2.St → Hp → Prop), v = .ref a ∧ Pv 0 σ H1 ∧ (∀ i σ' H', i ≤ xs.length → Pv i σ' H' → SqL K H' a xs) ∧
      (∀ i x σ' H', xs[i]? = some x → Pv i σ' H' → g x σ' H' fun σ2 H2 => tu { D with nx := Pv (i + 1), ct := Pv (i + 1), bk := D.nx } σ2 H2) ∧ (∀ σ' H', Pv xs.length σ' H' → D.nx σ' H')) : tFor (iList K tl) g tu D σ H :=
  h H (Ex.refl H) _ fun v H1 e p => by
    obtain ⟨a, xs, Pv, rfl, h0, hl, hs, hd⟩ := k v H1 e p
    exact ⟨a, rfl, ⟨xs, hl 0 σ H1 (Nat.zero_le _) h0⟩, for_list Pv h0 hl hs hd⟩
theorem q_forP {tl : TE} {P : V → Hp → Prop} (h : EvP tl σ H P) (k : ∀ v H1, Ex H H1 → P v H1 → ∃ (a : Addr) (xs : List V) (Pv : Nat → L2.St → Hp → Prop), v = .ref a ∧ Pv 0 σ H1 ∧ (∀ i σ' H', i ≤ xs.length → Pv i σ' H' → SqL K H' a xs) ∧
      (∀ i x σ' H', xs[i]? = some x → Pv i σ' H' → g x σ' H' fun σ2 H2 => tu { D with nx := Pv (i + 1), ct := Pv (i + 1), bk := tz D } σ2 H2) ∧ (∀ σ' H', Pv xs.length σ' H' → tz D σ' H')) : tSeq (tFor (iList K tl) g tu) tz D σ H :=
  s_forP (D := { D with nx := tz D }) h k
/-- for i, x in enumerate(xs) -/
theorem for_enum {a : Addr} {xs : List V} {i0 j0 : Nat} (Pv : Nat → L2.St → Hp → Prop) (h0 : Pv 0 σ H) (hl : ∀ i σ' H', i ≤ xs.length → Pv i σ' H' → SqL K H' a xs)
    (hs : ∀ (i : Nat) x σ' H' H2, xs[i]? = some x → Pv i σ' H' → Ex H' H2 → tu { D with nx := Pv (i + 1), ct := Pv (i + 1), bk := D.nx } ((σ'.set i0 (some (.int (i : Int)))).set j0 (some x)) H2) (hd : ∀ σ' H', Pv xs.length σ' H' → D.nx σ' H') :
    ∃ W : Nat → Nat → L2.St → Hp → Prop, (∃ m, W 0 m σ H) ∧ ∀ i m σ H, W i m σ H →
      ((Ite K a).stop i H ∧ D.nx σ H) ∨ ((Ite K a).go i H ∧ ∃ N : L2.St → Hp → Prop, (∀ σ' H', N σ' H' → ∃ m', m' < m ∧ W (i + 1) m' σ' H') ∧ ∀ x H', (Ite K a).yld i H x H' → gTup K 2 (gCons (gName i0) (gCons (gName j0) gNil)) x σ H' fun σ2 H2 => tu { D with nx := N, ct := N, bk := D.nx } σ2 H2) := by
  refine ⟨fun i m σ H => m = xs.length - i ∧ i ≤ xs.length ∧ Pv i σ H, ⟨xs.length, by simp, Nat.zero_le _, h0⟩, ?_⟩
  rintro i m σ H ⟨rfl, hi, p⟩
  have q := hl i σ H hi p
  by_cases hlt : i < xs.length
  · refine .inr ⟨⟨xs, xs[i], q, by simp [hlt]⟩, Pv (i + 1), fun σ' H' p' => ⟨xs.length - (i + 1), by omega, rfl, hlt, p'⟩, fun x H' y => ?_⟩
    obtain ⟨T, z, rfl, hT, rfl, hz⟩ := y
    exact g_two (sq_tup upd_same) (hs i z σ H _ (hz xs q) p (Ex.new hT))
  · have e : i = xs.length := by omega
    subst e
    exact .inl ⟨⟨xs, q, Nat.le_refl _⟩, hd σ H p⟩
where sq_tup {K : PySem.W.Frag} {H : Hp} {a : Addr} {xs : List V} (h : H a = some (.tup xs)) : SqT K H a xs := st_of h
theorem s_forE {tl : TE} {P : V → Hp → Prop} {i0 j0 : Nat} (h : EvP tl σ H P) (k : ∀ v H1, Ex H H1 → P v H1 → ∃ (a : Addr) (xs : List V) (Pv : Nat → L2.St → Hp → Prop), v = .ref a ∧ Pv 0 σ H1 ∧ (∀ i σ' H', i ≤ xs.length → Pv i σ' H' → SqL K H' a xs) ∧
      (∀ (i : Nat) x σ' H' H2, xs[i]? = some x → Pv i σ' H' → Ex H' H2 → tu { D with nx := Pv (i + 1), ct := Pv (i + 1), bk := D.nx } ((σ'.set i0 (some (.int (i : Int)))).set j0 (some x)) H2) ∧ (∀ σ' H', Pv xs.length σ' H' → D.nx σ' H')) :
    tFor (iEnum K (tCons tl tNil)) (gTup K 2 (gCons (gName i0) (gCons (gName j0) gNil))) tu D σ H :=
  h H (Ex.refl H) _ fun v H1 e p => by
    obtain ⟨a, xs, Pv, rfl, h0, hl, hs, hd⟩ := k v H1 e p
    exact ⟨a, xs, rfl, hl 0 σ H1 (Nat.zero_le _) h0, for_enum Pv h0 hl hs hd⟩
theorem q_forE {tl : TE} {P : V → Hp → Prop} {i0 j0 : Nat} (h : EvP tl σ H P) (k : ∀ v H1, Ex H H1 → P v H1 → ∃ (a : Addr) (xs : List V) (Pv : Nat → L2.St → Hp → Prop), v = .ref a ∧ Pv 0 σ H1 ∧ (∀ i σ' H', i ≤ xs.length → Pv i σ' H' → SqL K H' a xs) ∧
      (∀ (i : Nat) x σ' H' H2, xs[i]? = some x → Pv i σ' H' → Ex H' H2 → tu { D with nx := Pv (i + 1), ct := Pv (i + 1), bk := tz D } ((σ'.set i0 (some (.int (i : Int)))).set j0 (some x)) H2) ∧ (∀ σ' H', Pv xs.length σ' H' → tz D σ' H')) :
    tSeq (tFor (iEnum K (tCons tl tNil)) (gTup K 2 (gCons (gName i0) (gCons (gName j0) gNil))) tu) tz D σ H := s_forE (D := { D with nx := tz D }) h k
/-- xs.extend(ys), ys a new list -/
theorem s_ext {l : Addr} {xs ys : List V} (hl : H l = some (.lst xs)) (ha : Ev ta σ H (.ref l)) (h : EvL te σ H ys) (hz : xs.length + ys.length ≤ 100000) (k : ∀ H1, Ex H H1 → D.nx σ (upd H1 l (.lst (xs ++ ys)))) :
    tDrop (tBM K "list" rExtend ta (tCons te tNil)) D σ H := ha H (Ex.refl H) _ fun H1 e1 =>
  ⟨Or.inl ⟨rfl, xs, sq_of (e1 l _ hl)⟩, h H1 e1 _ fun p H2 hp e2 h2 => ⟨l, p, xs, ys, rfl, rfl, e2 l _ (e1 l _ hl), h2, sz_of hz, k H2 (e1.trans e2)⟩⟩
theorem q_ext {l : Addr} {xs ys : List V} (hl : H l = some (.lst xs)) (ha : Ev ta σ H (.ref l)) (h : EvL te σ H ys) (hz : xs.length + ys.length ≤ 100000) (k : ∀ H1, Ex H H1 → tz D σ (upd H1 l (.lst (xs ++ ys)))) :
    tSeq (tDrop (tBM K "list" rExtend ta (tCons te tNil))) tz D σ H := s_ext (D := { D with nx := tz D }) hl ha h hz k
end
end SX

namespace SX
open PySem PySem.Spec PyProof.Rows L2 Evl
section
variable {K : PySem.W.Frag} {σ : L2.St} {H H' : Hp} {ta tb te : TE} {tt : TT} {x y z v : V}
theorem el_if {b : Bool} {xs : List V} (h : EvT tt σ H b) (h1 : b = true → EvL ta σ H xs) (h2 : b = false → EvL tb σ H xs) : EvL (tIf tt ta tb) σ H xs := fun H1 e Q q => h H1 e _ fun H2 e2 => by
  cases b with
  | true =>
    show ta σ H2 Q
    exact h1 rfl H2 (e.trans e2) Q fun p H3 hp e3 h3 => q p H3 (fresh_back e2 hp) (e2.trans e3) h3
  | false =>
    show tb σ H2 Q
    exact h2 rfl H2 (e.trans e2) Q fun p H3 hp e3 h3 => q p H3 (fresh_back e2 hp) (e2.trans e3) h3
/-- (a, b, ..)[i] -/
theorem ev_ixU {xs : List V} {i : Int} (ha : EvU ta σ H xs) (hb : Ev tb σ H (.int i)) (hx : atI xs i = some v) : Ev (tOp (rIxT K) ta tb) σ H v := fun H1 e Q q =>
  ha H1 e _ fun p H2 _ e2 hp => hb H2 (e.trans e2) _ fun H3 e3 => ⟨p, xs, i, v, rfl, rfl, st_of (e3 p _ hp), hx, q H3 (e2.trans e3)⟩
theorem ev_ixL {p : Addr} {xs : List V} {i : Int} (ha : Ev ta σ H (.ref p)) (hb : Ev tb σ H (.int i)) (h : SqL K H p xs) (hx : atI xs i = some v) : Ev (tOp (rIxL K) ta tb) σ H v := ev_op ha hb (rv_ixL h hx)
theorem ev_ixT {p : Addr} {xs : List V} {i : Int} (ha : Ev ta σ H (.ref p)) (hb : Ev tb σ H (.int i)) (h : SqT K H p xs) (hx : atI xs i = some v) : Ev (tOp (rIxT K) ta tb) σ H v := ev_op ha hb (rv_ixT h hx)
theorem at_ints {ns : List Int} {i : Int} (h0 : 0 ≤ i) (h1 : i < ns.length) : atI (ns.map V.int) i = some (.int (ns.getD i.toNat 0)) := by
  obtain ⟨j, rfl⟩ := Int.eq_ofNat_of_zero_le h0
  have hj : j < ns.length := by omega
  refine atI_nat ?_
  rw [List.getElem?_map, List.getElem?_eq_getElem hj, List.getD_eq_getElem?_getD]
  show some (V.int ns[j]) = some (V.int ((ns[((j : Nat) : Int).toNat]?).getD 0))
  rw [Int.toNat_natCast, List.getElem?_eq_getElem hj] <;> rfl
theorem cut_take (ns : List Int) (k : Nat) : cutV (ns.map V.int) none (some (k : Int)) = (ns.take k).map V.int := by
  unfold cutV
  rw [HT.sIx_none, HT.sIx_nat, List.drop_zero, Nat.sub_zero, List.length_map, List.map_take]
  by_cases h : k ≤ ns.length
  · rw [Nat.min_eq_left h]
  · rw [Nat.min_eq_right (by omega), List.take_of_length_le (by rw [List.length_map] <;> omega), List.take_of_length_le (by rw [List.length_map] <;> omega)]
theorem cut_drop (ns : List Int) (k : Nat) : cutV (ns.map V.int) (some (k : Int)) none = (ns.drop k).map V.int := by
  unfold cutV
  rw [HT.sIx_none, HT.sIx_nat, List.length_map, List.map_drop]
  by_cases h : k ≤ ns.length
  · rw [Nat.min_eq_left h, List.take_of_length_le (by rw [List.length_drop, List.length_map] <;> omega)]
  · rw [Nat.min_eq_right (by omega), List.drop_of_length_le (by rw [List.length_map] <;> omega), List.drop_of_length_le (by rw [List.length_map] <;> omega), List.take_nil]
theorem el_cutTake {te : TE} {th : TO} {a : Addr} {ns : List Int} {k : Nat} (h : Ev te σ H (.ref a)) (h2 : EvO th σ H (some (k : Int))) (hs : SqL K H a (ns.map V.int)) : EvL (tSl (rSlL K) te tNoPart th) σ H ((ns.take k).map V.int) := by
  have q := el_sl h eo_none h2 hs
  rw [cut_take] at q
  exact q
theorem el_cutDrop {te : TE} {tl : TO} {a : Addr} {ns : List Int} {k : Nat} (h : Ev te σ H (.ref a)) (h1 : EvO tl σ H (some (k : Int))) (hs : SqL K H a (ns.map V.int)) : EvL (tSl (rSlL K) te tl tNoPart) σ H ((ns.drop k).map V.int) := by
  have q := el_sl h h1 eo_none hs
  rw [cut_drop] at q
  exact q
theorem el_ints {ta : TA} {vs : List V} (ns : List Int) (h : EvA ta σ H vs) (e : vs = ns.map V.int) (hl : ns.length ≤ 100000) : EvL (tLst ta) σ H (ns.map V.int) := by
  subst e
  exact el_lst h (by rw [List.length_map]; exact hl)
theorem eu_ints {ta : TA} {vs : List V} (ns : List Int) (h : EvA ta σ H vs) (e : vs = ns.map V.int) (hl : ns.length ≤ 100000) : EvU (tTup ta) σ H (ns.map V.int) := by
  subst e
  exact eu_tup h (by rw [List.length_map]; exact hl)
/-- sorted(set(xs)) -/
theorem evp_sortSet {l : Addr} {ns : List Int} (ha : Ev ta σ H (.ref l)) (hl : SqL K H l (ns.map V.int)) (hz : ns.length < 64) :
    EvP (tSortSet K ta) σ H (fun v H1 => ∃ (p : Addr) (ms : List Int), v = .ref p ∧ H1 p = some (.lst (ms.map V.int)) ∧ ms.Pairwise (· < ·) ∧ (∀ k, k ∈ ms ↔ k ∈ ns) ∧ ms.length ≤ ns.length ∧ H p = none) := fun H1 e Q q =>
  ha H1 e _ fun H2 e2 => ⟨l, ns, rfl, ex_l (e.trans e2) hl, hz, fun ms p hp hm hlen hn => q _ _ (e2.trans (Ex.new hn)) ⟨p, ms, rfl, upd_same, hp, hm, hlen, fresh_back (e.trans e2) hn⟩⟩
/-- list(range(a, b, c)) -/
theorem el_rg3 {ta : TA} {i j c : Int} {n : Nat} (h : EvA ta σ H [.int i, .int j, .int c]) (hr : RgC i j c n) (hn : n ≤ 2 ^ 20) : EvL (tLstRg3 ta) σ H ((rgC i c n).map V.int) := fun H1 e Q q =>
  h H1 e _ fun H2 e2 => ⟨i, j, c, n, rfl, hr, hn, fun p hp => q p _ (fresh_back e2 hp) (e2.trans (Ex.new hp)) upd_same⟩
theorem fits_small {x : Int} (h : -4611686018427387904 ≤ x) (h2 : x < 4611686018427387904) : Builtin.Range.rangeFitsLong x = true := by
  unfold Builtin.Range.rangeFitsLong
  simp only [Bool.and_eq_true, decide_eq_true_eq]
  omega
theorem rgC_up {i j c : Int} (hc : 0 < c) (hc2 : c < 1000000) (hi : 0 ≤ i) (hi2 : i < 1000000000) (hj : 0 ≤ j) (hj2 : j < 1000000000) (hij : i < j) : RgC i j c ((j - i - 1) / c + 1).toNat := by
  have hs : Builtin.Range.rangeSize i j c = (j - i - 1) / c + 1 := by
    unfold Builtin.Range.rangeSize
    rw [if_pos hc, if_pos hij]
  have h0 : 0 ≤ (j - i - 1) / c := Int.ediv_nonneg (by omega) (by omega)
  have h1 : (j - i - 1) / c ≤ j - i - 1 := Int.ediv_le_self _ (by omega)
  refine ⟨by omega, by omega, ?_, by rw [hs]; omega⟩
  unfold Builtin.Range.small
  rw [hs, fits_small (by omega) (by omega), fits_small (by omega) (by omega), fits_small (by omega) (by omega), fits_small (by omega) (by omega), if_pos hc, fits_small (by omega) (by omega)]
  simp
end
end SX

/-! ### the rules within a comprehension's block: its own word is the def's -/
namespace SX
open PySem PySem.Spec PyProof.Rows L2 Evl
section
variable {X : Cx} {K : PySem.W.Frag}
theorem ix_listK (h : X.K = K := by rfl) : IxR X (rIxL K) := h ▸ ix_list
theorem ix_tupK (h : X.K = K := by rfl) : IxR X (rIxT K) := h ▸ ix_tup
theorem sl_listK (h : X.K = K := by rfl) : SlR X (rSlL K) := h ▸ sl_list
theorem call_len_seqK (h : X.K = K := by rfl) : CallR X (.builtin "len") (fun xs H Q => ∃ p ys, xs = [.ref p] ∧ (SqL K H p ys ∨ SqT K H p ys) ∧ Q (.int ys.length) H) := h ▸ call_len_seq
theorem call_isiK2 (h : X.K = K := by rfl) : CallR X (.builtin "isinstance") (rIsi K) := h ▸ call_isi
theorem pg_tupK {es : List Expr} {k : Nat} {pos : Pos} {n : Nat} {t : TGs} (hc : X.calm = true) (hq : PGs X es t) (h : X.K = K := by rfl) (hn : (assignEach es X.env).length = n := by rfl) (hst : (assignEach es X.env).findIdx? (·.1) = none := by rfl) : PG X (.Tuple es k pos) (gTup K n t) := by
  subst h
  exact pg_tup hc hq hn hst
theorem pi_listK {tg l : Expr} {tl : TE} (hl : PE X l tl) (h : X.K = K := by rfl) : PI X tg l (iList K tl) := by
  subst h
  exact pi_list hl
theorem pe_fldK {e : Expr} {f : Str} {pos : Pos} {ta : TE} (he : PE X e ta) (hb : attributeBase e f X.env (eval e X.env) = eval e X.env) (h : X.K = K := by rfl) : PE X (.Attribute e f pos) (tFld K ta f) := by
  subst h
  exact pe_fld he hb
end
theorem tyes_if {σ : L2.St} {H : Hp} {A B : Hp → Prop} (h : A H) : tYes σ H (fun b H3 => if b = true then A H3 else B H3) := by
  show (if true = true then A H else B H)
  exact iteT h
/-- a new list, its place new -/
def NewL (H : Hp) (xs : List V) : V → Hp → Prop := fun v H1 => ∃ p, v = .ref p ∧ H p = none ∧ H1 p = some (.lst xs)
theorem evp_new {σ : L2.St} {H : Hp} {te : TE} {xs : List V} (h : EvL te σ H xs) : EvP te σ H (NewL H xs) := fun H1 e Q q => h H1 e Q fun p H2 hp e2 h2 => q (.ref p) H2 e2 ⟨p, rfl, fresh_back e hp, h2⟩
section
variable {K : PySem.W.Frag} {σ : L2.St} {H H' : Hp} {ta tb te : TE} {x y z v : V}
theorem evp_call {sp : Sp} {dvs vs : List V} {E : XK} {ta : TA} {P : V → Hp → Prop} (h : EvA ta σ H vs) (hs : ∀ H1, Ex H H1 → ∀ Q : VK, (∀ v H2, Ex H1 H2 → P v H2 → Q v H2) → sp (vs ++ dvs) H1 Q E) : EvP (tCall sp dvs E ta) σ H P := fun H1 e Q q =>
  h H1 e _ fun H2 e2 => hs H2 (e.trans e2) Q fun v H3 e3 p => q v H3 (e2.trans e3) p
theorem evp_makeO {C : Addr} : EvP (tMakeO C) σ H (fun v H1 => ∃ (q dx : Addr), v = .ref q ∧ H1 q = some (.ins C dx [])) := fun H1 e Q q z dx nz ndx ne =>
  q (.ref z) _ (fun b o hb => by rw [upd_ne (ne_of_none hb nz), upd_ne (ne_of_none hb ndx)]; exact hb) ⟨z, dx, rfl, upd_same⟩
theorem el_cat {l : Addr} {xs ys : List V} (ha : Ev ta σ H (.ref l)) (hl : H l = some (.lst xs)) (hb : EvL tb σ H ys) (hz : xs.length + ys.length ≤ 100000) : EvL (tOp rCat ta tb) σ H (xs ++ ys) := fun H1 e Q q =>
  ha H1 e _ fun H2 e2 => hb H2 (e.trans e2) _ fun p H3 hp e3 h3 => ⟨l, p, xs, ys, rfl, rfl, e3 l _ (e2 l _ (e l _ hl)), h3, sz_of hz, fun r hr => q r _ (fresh_back (e2.trans e3) hr) ((e2.trans e3).trans (Ex.new hr)) upd_same⟩
theorem rv_isbl {a b : Bool} : RV (fun x y H Q => ∃ a b, x = .bl a ∧ y = .bl b ∧ Q (.bl (decide (a = b))) H) (.bl a) (.bl b) H (.bl (decide (a = b))) := fun H1 _ _ q => ⟨a, b, rfl, rfl, q H1 (Ex.refl H1)⟩
/-- two tuples of two tuples of ints, the same -/
theorem rv_eqPP {p q a b c d : Addr} {as bs : List Int} (hp : SqT K H p [.ref a, .ref b]) (hq : SqT K H q [.ref c, .ref d]) (ha : SqT K H a (as.map V.int)) (hb : SqT K H b (bs.map V.int)) (hc : SqT K H c (as.map V.int)) (hd : SqT K H d (bs.map V.int)) : RV (rEqD K) (.ref p) (.ref q) H (.bl true) := fun H1 e Q k => by
  have sh : SeqAt.shaped (.tuple [.tuple (as.map PyData.int), .tuple (bs.map PyData.int)]) = true := by
    simp [SeqAt.shaped, PyData.canLay0, PyData.canLayAll0, PyData.depth, PyData.depthAll, PySem.W.ke_canLayAll0, PySem.W.ke_depthAll]
  have eq : PyData.eqv (.tuple [.tuple (as.map PyData.int), .tuple (bs.map PyData.int)]) (.tuple [.tuple (as.map PyData.int), .tuple (bs.map PyData.int)]) = true := by
    simp [PyData.eqv, PyData.eqvAll, PySem.W.ked_eqvAll]
  exact ⟨_, _, .tup (ex_t e hp) (.cons (.tup (ex_t e ha) (dpAll_ints as)) (.cons (.tup (ex_t e hb) (dpAll_ints bs)) .nil)), .tup (ex_t e hq) (.cons (.tup (ex_t e hc) (dpAll_ints as)) (.cons (.tup (ex_t e hd) (dpAll_ints bs)) .nil)), sh, sh, by rw [eq]; exact k H1 (Ex.refl H1)⟩
end
end SX

namespace SX
open PySem PySem.Spec PyProof.Rows L2 Evl
/-! ### an own exception class: what the top has left -/
structure XC (K : PySem.W.Frag) (mg : Str → Option Value) (nm : Str) (C : Addr) : Prop where
  x : PySem.W.excIn K C [.type "ValueError", .type "Exception", .type "BaseException", .type "object"] "ValueError.__new__" = true
  g : mg nm = some (.ref C)
  k : PySem.W.keepIn K (.ref C) = true
  b : PySem.W.subIn K (.ref C) (.type "BaseException") = some true
  t : PySem.W.typeIn K (.ref C) = some (.type "type")
/-- an own class whose instances isinstance asks -/
structure IsC (K : PySem.W.Frag) (C : Addr) : Prop where
  ha : PySem.W.findIn K (.ref C) "__class__" = some (some (.builtin "object.__class__"))
  hn : PySem.W.specialIn K (.builtin "object.__class__") "__get__" = some (some (.builtin "getset_descriptor.__get__"))
  ht : PySem.W.takesIn K (.builtin "object.__class__") = some true
  hm : PySem.W.mroIn K C (.type "object") = some true
section
variable {K : PySem.W.Frag} {σ : L2.St} {H H' : Hp} {ta tb te : TE} {tt : TT} {x y z v : V} {D : Ends} {tz tu : TS}
theorem rc_isiOwn {p C C2 dx : Addr} {fs : List (Str × V)} {b : Bool} (c : Cls K C) (I : IsC K C) (hk : PySem.W.kitOne K (.ref C) (.ref C2) = some b) (h : H p = some (.ins C dx fs)) : RC (rIsi K) [.ref p, .ref C2] H (.bl b) :=
  rc_isi (.own C2) (fun H1 e => .base (.ins (e p _ h) c I.ha I.hn I.ht I.hm)) hk
theorem rc_isiOwnT {p C dx : Addr} {n : String} {fs : List (Str × V)} {b : Bool} (c : Cls K C) (I : IsC K C) (hk : PySem.W.kitOne K (.ref C) (.type n) = some b) (h : H p = some (.ins C dx fs)) : RC (rIsi K) [.ref p, .ty n] H (.bl b) :=
  rc_isi (.ty n) (fun H1 e => .base (.ins (e p _ h) c I.ha I.hn I.ht I.hm)) hk
/-! ### calls that may raise -/
theorem ev_callS {sp : Sp} {vs : List V} {E : L2.St → XK} {ta : TA} (h : EvA ta σ H vs) (hs : SpV sp vs H z) : Ev (tCallS sp E ta) σ H z := fun H1 e Q q =>
  h H1 e _ fun H2 e2 => hs H2 (e.trans e2) Q (fun H3 e3 => q H3 (e2.trans e3)) (E σ)
/-- a call as a statement: it returns or raises, as its promise says -/
theorem s_callX {sp : Sp} {vs : List V} {E : L2.St → XK} {ta : TA} (h : EvA ta σ H vs) (hs : ∀ H1, Ex H H1 → sp vs H1 (fun _ H2 => D.nx σ H2) (E σ)) : tDrop (tCallS sp E ta) D σ H := h H (Ex.refl H) _ fun H1 e => hs H1 e
theorem q_callX {sp : Sp} {vs : List V} {E : L2.St → XK} {ta : TA} (h : EvA ta σ H vs) (hs : ∀ H1, Ex H H1 → sp vs H1 (fun _ H2 => tz D σ H2) (E σ)) : tSeq (tDrop (tCallS sp E ta)) tz D σ H := s_callX (D := { D with nx := tz D }) h hs
theorem evp_callS {sp : Sp} {vs : List V} {E : L2.St → XK} {ta : TA} {P : V → Hp → Prop} (h : EvA ta σ H vs) (hs : ∀ H1, Ex H H1 → ∀ Q : VK, (∀ v H2, Ex H1 H2 → P v H2 → Q v H2) → sp vs H1 Q (E σ)) : EvP (tCallS sp E ta) σ H P := fun H1 e Q q =>
  h H1 e _ fun H2 e2 => hs H2 (e.trans e2) Q fun v H3 e3 p => q v H3 (e2.trans e3) p
/-! ### all, any of a new list -/
theorem ev_allN {bs : List Bool} (h : EvL ta σ H (bs.map V.bl)) : Ev (tCB (rAll K) (tCons ta tNil)) σ H (.bl (bs.all id)) := fun H1 e Q q =>
  h H1 e _ fun p H2 _ e2 h2 => ⟨p, bs, rfl, sq_of h2, q H2 e2⟩
theorem ev_anyN {bs : List Bool} (h : EvL ta σ H (bs.map V.bl)) : Ev (tCB (rAny K) (tCons ta tNil)) σ H (.bl (bs.any id)) := fun H1 e Q q =>
  h H1 e _ fun p H2 _ e2 h2 => ⟨p, bs, rfl, sq_of h2, q H2 e2⟩
theorem ev_any {p : Addr} {bs : List Bool} (h : Ev ta σ H (.ref p)) (hp : SqL K H p (bs.map V.bl)) : Ev (tCB (rAny K) (tCons ta tNil)) σ H (.bl (bs.any id)) := fun H1 e Q q =>
  h H1 e _ fun H2 e2 => ⟨p, bs, rfl, ex_l (e.trans e2) hp, q H2 e2⟩
theorem given_bl (n : Nat) (f : Nat → Bool) : given n (fun _ => true) (fun i => .bl (f i)) = ((List.range n).map f).map V.bl := by
  unfold given
  rw [List.filter_eq_self.mpr fun _ _ => rfl, List.map_map]
  rfl
theorem given_int (n : Nat) (f : Nat → Int) : given n (fun _ => true) (fun i => .int (f i)) = ((List.range n).map f).map V.int := by
  unfold given
  rw [List.filter_eq_self.mpr fun _ _ => rfl, List.map_map]
  rfl
/-! ### [e for x, y in zip(xs, ys)], ys a new list -/
theorem el_lcZ {ta : TE} {tb : TE} {i0 j0 : Nat} {vs : List Nat} {a : Addr} {xs ys : List V} (v : Nat → V) (ha : Ev ta σ H (.ref a)) (hx : SqL K H a xs) (hb : EvL tb σ H ys) (hz : xs.length ≤ 40000)
    (hw : ∀ x y, wipe (((wipe σ vs).set i0 (some x)).set j0 (some y)) vs = wipe σ vs)
    (he : ∀ (i : Nat) (x y : V) H1, Ex H H1 → xs[i]? = some x → ys[i]? = some y → Ev te (((wipe σ vs).set i0 (some x)).set j0 (some y)) H1 (v i)) :
    EvL (tLc (iZip K (tCons ta (tCons tb tNil))) (gTup K 2 (gCons (gName i0) (gCons (gName j0) gNil))) tYes te vs) σ H (given (min xs.length ys.length) (fun _ => true) v) := fun H0 e Q q => by
  refine ha H0 e _ fun H1 e1 => hb H1 (e.trans e1) _ fun b H2 hb2 e2 h2 => ⟨a, b, xs, ys, rfl, ex_l ((e.trans e1).trans e2) hx, sq_of h2, fun Dl hD => ?_⟩
  have e02 : Ex H H2 := (e.trans e1).trans e2
  refine ⟨fun i m H' => m = min xs.length ys.length - i ∧ i ≤ min xs.length ys.length ∧ Cw H2 (fun _ => true) v Dl i H', ⟨_, rfl, Nat.zero_le _, hD, Ex.new hD, upd_same⟩, ?_⟩
  rintro i m H' ⟨rfl, hi, p⟩
  obtain ⟨p1, p2, p3⟩ := p
  have qx := ex_l (e02.trans p2) hx
  have qy : SqL K H' b ys := ex_l p2 (sq_of h2)
  by_cases hlt : i < min xs.length ys.length
  · have hx1 : xs[i]? = some xs[i] := List.getElem?_eq_getElem (by omega)
    have hy1 : ys[i]? = some ys[i] := List.getElem?_eq_getElem (by omega)
    refine .inr ⟨⟨xs, ys, xs[i], ys[i], qx, qy, hx1, hy1⟩, Cw H2 (fun _ => true) v Dl (i + 1), fun H'' h'' => ⟨_, by omega, rfl, hlt, h''⟩, ?_⟩
    rintro x H3 ⟨T, x1, y1, rfl, hT, rfl, hx2, hy2⟩
    obtain rfl : x1 = xs[i] := Option.some.inj ((hx2 _ qx).symm.trans hx1)
    obtain rfl : y1 = ys[i] := Option.some.inj ((hy2 _ qy).symm.trans hy1)
    refine g_two (st_of upd_same) ⟨hw _ _, ?_⟩
    exact cw_turn (t := tYes) (te := te) ⟨p1, p2.trans (Ex.new hT), by rw [upd_ne (ne_of_none p3 hT)]; exact p3⟩ (by omega) (fun H4 e4 Q4 q4 => q4 H4 (Ex.refl H4)) fun _ => he i _ _ H2 e02 hx1 hy1
  · have hii : i = min xs.length ys.length := by omega
    refine .inl ⟨⟨xs, ys, qx, qy, by omega⟩, ?_⟩
    subst hii
    exact q Dl H' (fresh_back (e1.trans e2) p1) ((e1.trans e2).trans p2) p3
/-! ### dicts of ints -/
theorem ev_din {a : Addr} {kvs : List (Key × V)} {n : Int} (hk : Ev ta σ H (.int n)) (hd : Ev tb σ H (.ref a)) (h : H a = some (.dK kvs)) : Ev (tDIn ta tb) σ H (.bl (valV kvs (.inl n)).isSome) := fun H1 e Q q =>
  hk H1 e _ fun H2 e2 => hd H2 (e.trans e2) _ fun H3 e3 => ⟨a, _, rfl, DGet.k (k := .inl n) (((e.trans e2).trans e3) a _ h), q H3 (e2.trans e3)⟩
theorem ev_dget {a : Addr} {kvs : List (Key × V)} {n : Int} (hd : Ev ta σ H (.ref a)) (hk : Ev tb σ H (.int n)) (h : H a = some (.dK kvs)) (hv : valV kvs (.inl n) = some v) : Ev (tDGet ta tb) σ H v := fun H1 e Q q =>
  hd H1 e _ fun H2 e2 => hk H2 (e.trans e2) _ fun H3 e3 => ⟨a, v, rfl, hv ▸ DGet.k (k := .inl n) (((e.trans e2).trans e3) a _ h), q H3 (e2.trans e3)⟩
theorem s_dput {a : Addr} {kvs : List (Key × V)} {n : Int} (h : H a = some (.dK kvs)) (hv : Ev te σ H v) (hd : Ev ta σ H (.ref a)) (hk : Ev tb σ H (.int n)) (hz : kvs.length < 100000)
    (k : ∀ H1, Ex H H1 → D.nx σ (upd H1 a (.dK (putK kvs (.inl n) v)))) : sDPut ta tb te D σ H := hv H (Ex.refl H) _ fun H1 e1 => hd H1 e1 _ fun H2 e2 => hk H2 (e1.trans e2) _ fun H3 e3 =>
  ⟨a, _, rfl, DPut.k (k := .inl n) (((e1.trans e2).trans e3) a _ h) (sz_lt hz), k H3 ((e1.trans e2).trans e3)⟩
theorem q_dput {a : Addr} {kvs : List (Key × V)} {n : Int} (h : H a = some (.dK kvs)) (hv : Ev te σ H v) (hd : Ev ta σ H (.ref a)) (hk : Ev tb σ H (.int n)) (hz : kvs.length < 100000)
    (k : ∀ H1, Ex H H1 → tz D σ (upd H1 a (.dK (putK kvs (.inl n) v)))) : tSeq (sDPut ta tb te) tz D σ H := s_dput (D := { D with nx := tz D }) h hv hd hk hz k
theorem q_asgD {i : Nat} (k : ∀ p, H p = none → tz D (σ.set i (some (.ref p))) (upd H p (.dK []))) : tSeq (tAsg tDNewK (gName i)) tz D σ H := fun p hp => k p hp
theorem val_mem {kvs : List (Key × V)} {k : Key} : valV kvs k = some v → (k, v) ∈ kvs := by
  induction kvs with
  | nil => intro h; rw [valV_nil] at h; cases h
  | cons p r ih =>
    intro h
    by_cases e : p.1 = k
    · rw [valV_pos e] at h
      cases h
      exact List.mem_cons.mpr (.inl (by rw [← e]))
    · rw [valV_neg e] at h
      exact List.mem_cons_of_mem _ (ih h)
theorem val_none {kvs : List (Key × V)} {k : Key} : valV kvs k = none → ∀ w, (k, w) ∉ kvs := by
  induction kvs with
  | nil => intro _ w hw; cases hw
  | cons p r ih =>
    intro h w hw
    by_cases e : p.1 = k
    · rw [valV_pos e] at h
      cases h
    · rw [valV_neg e] at h
      rcases List.mem_cons.mp hw with q | q
      · exact e (by rw [← q])
      · exact ih h w q
end
/-! ### math.isqrt -/
def rIsqrt : List V → Hp → VK → Prop := fun vs H Q => ∃ a : Int, vs = [.int a] ∧ 0 ≤ a ∧ a < 2 ^ 64 ∧ Q (.int ((Float64.isqrt a.toNat : Nat) : Int)) H
theorem cr_isqrt {X : Cx} : CallR X (.builtin "math.isqrt") rIsqrt := by
  intro pins s σ H vs us Q I r h
  obtain ⟨a, rfl, h0, h1, q⟩ := h
  cases r with
  | cons ra rn =>
    cases rn
    obtain ⟨t, rfl⟩ := ra
    exact PySem.W.mg_isqrt h0 h1 ⟨.int _, H, I.tok _, ⟨_, rfl⟩, q⟩
theorem ev_isqrt {σ : L2.St} {H : Hp} {ta : TE} {a : Int} (ha : Ev ta σ H (.int a)) (h0 : 0 ≤ a) (h1 : a < 2 ^ 64) : Ev (tCB rIsqrt (tCons ta tNil)) σ H (.int ((Float64.isqrt a.toNat : Nat) : Int)) := fun H1 e Q q =>
  ha H1 e _ fun H2 e2 => ⟨a, rfl, h0, h1, q H2 e2⟩
end SX

namespace SX
open PySem PySem.Spec PyProof.Rows L2 Evl
/-! ### one of two ways to read -/
def tEither (t u : TE) : TE := fun σ H Q => t σ H Q ∨ u σ H Q
theorem pe_either {X : Cx} {e : Expr} {t u : TE} (h1 : PE X e t) (h2 : PE X e u) : PE X e (tEither t u) := ⟨fun pins s σ H Q I h => by
  rcases h with h | h
  · exact h1.run pins s σ H Q I h
  · exact h2.run pins s σ H Q I h⟩
section
variable {K : PySem.W.Frag} {σ : L2.St} {H H' : Hp} {ta tb te : TE} {tt : TT} {x y z v : V} {D : Ends} {tz tu : TS}
theorem ev_e1 (h : Ev ta σ H v) : Ev (tEither ta tb) σ H v := fun H1 e Q q => .inl (h H1 e Q q)
theorem ev_e2 (h : Ev tb σ H v) : Ev (tEither ta tb) σ H v := fun H1 e Q q => .inr (h H1 e Q q)
/-! ### xs[::-1] -/
theorem el_rev {a : Addr} {xs : List V} (h : Ev te σ H (.ref a)) (hx : SqL K H a xs) : EvL (tRevL K te) σ H xs.reverse := fun H1 e Q q =>
  h H1 e _ fun H2 e2 => ⟨a, xs, rfl, ex_l (e.trans e2) hx, fun p hp => q p _ (fresh_back e2 hp) (e2.trans (Ex.new hp)) upd_same⟩
theorem rv_isB {a b : Bool} : RV rIsB (.bl a) (.bl b) H (.bl (decide (a = b))) := fun H1 _ _ q => ⟨a, b, rfl, rfl, q H1 (Ex.refl H1)⟩
theorem rv_notB {a b : Bool} : RV rNotB (.bl a) (.bl b) H (.bl (!decide (a = b))) := fun H1 _ _ q => ⟨a, b, rfl, rfl, q H1 (Ex.refl H1)⟩
end
/-! ### xs[::c], c written -/
def pick (c : Int) (n : Nat) : List Nat := sliceRange (sliceBounds none none (some c) n).1 (sliceBounds none none (some c) n).2.1 (sliceBounds none none (some c) n).2.2
def stepV {α : Type} (c : Int) (xs : List α) : List α := (pick c xs.length).filterMap (xs[·]?)
def tStep (K : PySem.W.Frag) (c : Int) (te : TE) : TE := fun σ H Q => te σ H fun x H1 => ∃ a xs, x = .ref a ∧ SqL K H1 a xs ∧ ∀ p, H1 p = none → Q (.ref p) (upd H1 p (.lst (stepV c xs)))
theorem vals_pick {xs : List V} {its : List Value} (r : Vals xs its) : ∀ l : List Nat, Vals (l.filterMap (xs[·]?)) (l.filterMap (its[·]?))
  | [] => .nil
  | i :: l => by
    have ih := vals_pick r l
    cases hx : xs[i]? with
    | none =>
      have hi : its[i]? = none := by
        rw [List.getElem?_eq_none_iff] at hx ⊢
        rw [← r.length]
        exact hx
      rw [List.filterMap_cons, List.filterMap_cons]
      simp only [hx, hi]
      exact ih
    | some x =>
      obtain ⟨u, hu, ru⟩ := r.get hx
      rw [List.filterMap_cons, List.filterMap_cons]
      simp only [hx, hu]
      exact .cons ru ih
theorem pe_step {X : Cx} {e : Expr} {te : TE} {c : Nat} {k : Nat} {p1 p3 pos : Pos} (he : PE X e te) (h0 : (c : Int) ≠ 0 := by decide) : PE X (.Subscript e (.Slice none none (some (.Constant (.int c) k p1)) p3) pos) (tStep X.K c te) := by
  refine ⟨fun pins s σ H Q I h => ?_⟩
  refine Subscript_ (thn (he.run pins s σ H _ I h) fun v s1 ⟨x, H1, I1, r1, q1⟩ => ?_)
  obtain ⟨a, xs, ex, hx, q⟩ := q1
  subst ex
  cases r1
  have hst : PO X (some (.Constant (.int c) k p1)) (tPart (tC (.int c))) := po_some pe_int
  refine wpAny_Slice (thn (po_none.run pins s1 σ H1 (fun o H2 => o = none ∧ H2 = H1) I1 ⟨rfl, rfl⟩) fun vl s2 ⟨l, H2, I2, pl, el, e2⟩ => ?_)
  subst el e2
  refine thn (po_none.run pins s2 σ H2 (fun o H3 => o = none ∧ H3 = H2) I2 ⟨rfl, rfl⟩) fun vu s3 ⟨u, H3, I3, pu, eu, e3⟩ => ?_
  subst eu e3
  refine thn (hst.run pins s3 σ H3 (fun o H4 => o = some (c : Int) ∧ H4 = H3) I3 ⟨(c : Int), rfl, rfl, rfl⟩) fun vs s4 ⟨o, H4, I4, ps, eo, e4⟩ => ?_
  subst eo e4
  have I5 : Inv X pins σ H4 { s4 with heap := s4.heap.push { cls := .type "slice", data := .fields #[vl, vu, vs] } } := I4.kept (t' := s4.toks) fun b ob q => Heap.get?_push_of_some _ q
  obtain ⟨its, r, ht, hz⟩ := I5.list hx
  have hlen := r.length
  show wpAny (model X.prog X.w) X.A (subscriptTail e (.Slice none none (some (.Constant (.int c) k p1)) p3) (.ref a) (.ref s4.heap.objs.size)) (EP X pins σ Q) X.xe { s4 with heap := s4.heap.push { cls := .type "slice", data := .fields #[vl, vu, vs] } }
  refine tail_any (ops := [.ref a, .ref s4.heap.objs.size]) ht.isList.typeIs (PySem.slot_list_getitem.lookup) ?_ (by with_unfolding_all rfl)
  refine wpAny_getItem_list_slice ht.isList (Heap.IsSliceOf.new _ vl vu vs) pl pu ps (by intro z; exact h0 (Option.some.inj z)) ?_ (by rw [List.size_toArray]; omega)
  have hpk : slicePick its.toArray none none (some (c : Int)) = (stepV (c : Int) its).toArray := by
    unfold slicePick stepV pick
    rw [List.size_toArray]
    congr 1
    congr 1
    funext i
    simp
  rw [hpk]
  have hv : Vals (stepV (c : Int) xs) (stepV (c : Int) its) := by
    unfold stepV
    rw [hlen]
    exact vals_pick r _
  have hl2 : (stepV (c : Int) xs).length ≤ sizeLine := by
    have h1 := slicePick_size_le its.toArray none none (some (c : Int))
    rw [hpk, List.size_toArray, List.size_toArray, ← hv.length, ← hlen] at h1
    omega
  refine ⟨.ref _, _, I5.laid (t' := s4.toks) (o := .lst (stepV (c : Int) xs)) (fun b ob q => Heap.get?_push_of_some _ q) (Nat.le_refl _) ?_, rfl, q _ (I5.hok.fresh (Nat.le_refl _))⟩
  exact ⟨hl2, _, 0, hv, Heap.get?_push_size _ rfl⟩
theorem step_ints (c : Int) (ns : List Int) : stepV c (ns.map V.int) = (stepV c ns).map V.int := by
  unfold stepV
  rw [List.length_map, List.map_filterMap]
  congr 1
  funext i
  rw [List.getElem?_map]
theorem pick_rise (c : Int) (hc : 0 < c) (n : Nat) : (pick c n).Pairwise (· < ·) := by
  unfold pick sliceRange sliceBounds
  simp only [Option.getD_some]
  refine List.pairwise_map.mpr (List.Pairwise.imp ?_ List.pairwise_lt_range)
  intro a b hab
  have h : c * (a : Int) < c * (b : Int) := Int.mul_lt_mul_of_pos_left (by omega) hc
  have h0 : 0 ≤ c * (a : Int) := Int.mul_nonneg (by omega) (by omega)
  simp only [hc, if_true]
  omega
theorem step_le {α : Type} (c : Int) (hc : 0 < c) (xs : List α) : (stepV c xs).length ≤ xs.length := by
  unfold stepV
  refine Nat.le_trans (List.length_filterMap_le _ _) ?_
  unfold pick
  refine sliceRange_length_le _ _ _ _ (fun _ => ?_) fun h => ?_
  · simp [sliceBounds, hc]
  · simp [sliceBounds] at h
    omega
theorem step_mem {α : Type} {c : Int} {xs : List α} {x : α} (h : x ∈ stepV c xs) : x ∈ xs := by
  unfold stepV at h
  obtain ⟨i, _, hi⟩ := List.mem_filterMap.mp h
  exact List.mem_of_getElem? hi
theorem step_rise {c : Int} (hc : 0 < c) {ns : List Int} (h : ns.Pairwise (· < ·)) : (stepV c ns).Pairwise (· < ·) := by
  unfold stepV
  refine List.Pairwise.filterMap _ ?_ (pick_rise c hc ns.length)
  intro i j hij a ha b hb
  obtain ⟨h1, rfl⟩ := List.getElem?_eq_some_iff.mp ha
  obtain ⟨h2, rfl⟩ := List.getElem?_eq_some_iff.mp hb
  exact List.pairwise_iff_getElem.mp h i j h1 h2 hij
theorem el_step {K : PySem.W.Frag} {σ : L2.St} {H : Hp} {te : TE} {a : Addr} {ns : List Int} {c : Int} (h : Ev te σ H (.ref a)) (hx : SqL K H a (ns.map V.int)) : EvL (tStep K c te) σ H ((stepV c ns).map V.int) := fun H1 e Q q =>
  h H1 e _ fun H2 e2 => ⟨a, _, rfl, ex_l (e.trans e2) hx, fun p hp => q p _ (fresh_back e2 hp) (e2.trans (Ex.new hp)) (by rw [upd_same, step_ints])⟩
section
variable {K : PySem.W.Frag} {σ : L2.St} {H H' : Hp} {ta tb te : TE} {tt : TT} {x y z v : V} {D : Ends} {tz tu : TS}
theorem eap_1 {t1 : TE} {P1 : V → Hp → Prop} (h1 : EvP t1 σ H P1) : EvAP (tCons t1 tNil) σ H (fun vs H => ∃ x, vs = [x] ∧ P1 x H) := fun H1 e Q q =>
  h1 H1 e _ fun x H2 e2 p => q [x] H2 e2 ⟨x, rfl, p⟩
theorem eap_2 {t1 t2 : TE} {P1 P2 : V → Hp → Prop} (m1 : Mono P1) (h1 : EvP t1 σ H P1) (h2 : EvP t2 σ H P2) : EvAP (tCons t1 (tCons t2 tNil)) σ H (fun vs H => ∃ x y, vs = [x, y] ∧ P1 x H ∧ P2 y H) := fun H1 e Q q =>
  h1 H1 e _ fun x H2 e2 p1 => h2 H2 (e.trans e2) _ fun y H3 e3 p2 => q [x, y] H3 (e2.trans e3) ⟨x, y, rfl, m1 _ _ _ e3 p1, p2⟩
/-- a list of two things -/
def L2P (P1 P2 : V → Hp → Prop) : V → Hp → Prop := fun v H => ∃ p x y, v = .ref p ∧ H p = some (.lst [x, y]) ∧ P1 x H ∧ P2 y H
theorem L2P.mono {P1 P2 : V → Hp → Prop} (m1 : Mono P1) (m2 : Mono P2) : Mono (L2P P1 P2) := fun _ _ _ e ⟨p, x, y, h, q, h1, h2⟩ => ⟨p, x, y, h, e p _ q, m1 _ _ _ e h1, m2 _ _ _ e h2⟩
theorem evp_lst2 {t1 t2 : TE} {P1 P2 : V → Hp → Prop} (m1 : Mono P1) (m2 : Mono P2) (h1 : EvP t1 σ H P1) (h2 : EvP t2 σ H P2) : EvP (tLst (tCons t1 (tCons t2 tNil))) σ H (L2P P1 P2) := fun H1 e Q q =>
  eap_2 m1 h1 h2 H1 e _ fun vs H2 e2 ⟨x, y, evs, p1, p2⟩ => by
    subst evs
    exact ⟨by show 2 ≤ sizeLine; decide, fun p hp => q _ _ (e2.trans (Ex.new hp)) ⟨p, x, y, rfl, upd_same, m1 _ _ _ (Ex.new hp) p1, m2 _ _ _ (Ex.new hp) p2⟩⟩
/-- an operation on two such things -/
theorem ev_opPP {r : R2} {P1 P2 : V → Hp → Prop} (m1 : Mono P1) (h1 : EvP ta σ H P1) (h2 : EvP tb σ H P2) (hr : ∀ x y H1, Ex H H1 → P1 x H1 → P2 y H1 → RV r x y H1 z) : Ev (tOp r ta tb) σ H z := fun H1 e Q q =>
  h1 H1 e _ fun x H2 e2 p1 => h2 H2 (e.trans e2) _ fun y H3 e3 p2 => hr x y H3 ((e.trans e2).trans e3) (m1 _ _ _ e3 p1) p2 H3 (Ex.refl H3) Q fun H4 e4 => q H4 ((e2.trans e3).trans e4)
theorem evp_callP {sp : Sp} {dvs : List V} {E : XK} {ta : TA} {R : List V → Hp → Prop} {P : V → Hp → Prop} (h : EvAP ta σ H R) (hs : ∀ vs H1, Ex H H1 → R vs H1 → ∀ Q : VK, (∀ v H2, Ex H1 H2 → P v H2 → Q v H2) → sp (vs ++ dvs) H1 Q E) : EvP (tCall sp dvs E ta) σ H P := fun H1 e Q q =>
  h H1 e _ fun vs H2 e2 r => hs vs H2 (e.trans e2) r Q fun v H3 e3 p => q v H3 (e2.trans e3) p
theorem ev_cbP {r : List V → Hp → VK → Prop} {ta : TA} {R : List V → Hp → Prop} (h : EvAP ta σ H R) (hr : ∀ vs H1, Ex H H1 → R vs H1 → RC r vs H1 z) : Ev (tCB r ta) σ H z := fun H1 e Q q =>
  h H1 e _ fun vs H2 e2 p => hr vs H2 (e.trans e2) p H2 (Ex.refl H2) Q fun H3 e3 => q H3 (e2.trans e3)
/-- [a, b, ..][i], the things of a kind -/
theorem evp_ixL {P : V → Hp → Prop} {n : Nat} {i : Int} (m : Mono P) (h : EvP ta σ H (LstN P n)) (hb : Ev tb σ H (.int i)) (h0 : 0 ≤ i) (h1 : i < n) : EvP (tOp (rIxL K) ta tb) σ H P := fun H1 e Q q =>
  h H1 e _ fun x H2 e2 ⟨p, xs, ex, hp, hl, hx⟩ => hb H2 (e.trans e2) _ fun H3 e3 => by
    subst ex
    obtain ⟨j, rfl⟩ := Int.eq_ofNat_of_zero_le h0
    have hj : j < xs.length := by omega
    exact ⟨p, xs, (j : Int), xs[j], rfl, rfl, sq_of (e3 p _ hp), atI_nat (List.getElem?_eq_getElem hj), q _ _ (e2.trans e3) (m _ _ _ e3 (hx _ (List.getElem_mem hj)))⟩
end
/-- two lists of two tuples of ints, the same -/
theorem rv_neL2 {K : PySem.W.Frag} {H : Hp} {p q a b c d : Addr} {as bs : List Int} (hp : SqL K H p [.ref a, .ref b]) (hq : SqL K H q [.ref c, .ref d]) (ha : SqT K H a (as.map V.int)) (hb : SqT K H b (bs.map V.int)) (hc : SqT K H c (as.map V.int)) (hd : SqT K H d (bs.map V.int)) : RV (rNeD K) (.ref p) (.ref q) H (.bl false) := fun H1 e Q k => by
  have sh : SeqAt.shaped (.list [.tuple (as.map PyData.int), .tuple (bs.map PyData.int)]) = true := by
    simp [SeqAt.shaped, PyData.canLay0, PyData.canLayAll0, PyData.depth, PyData.depthAll, PySem.W.ke_canLayAll0, PySem.W.ke_depthAll]
  have eq : PyData.eqv (.list [.tuple (as.map PyData.int), .tuple (bs.map PyData.int)]) (.list [.tuple (as.map PyData.int), .tuple (bs.map PyData.int)]) = true := by
    simp [PyData.eqv, PyData.eqvAll, PySem.W.ked_eqvAll]
  exact ⟨_, _, .lst (ex_l e hp) (.cons (.tup (ex_t e ha) (dpAll_ints as)) (.cons (.tup (ex_t e hb) (dpAll_ints bs)) .nil)), .lst (ex_l e hq) (.cons (.tup (ex_t e hc) (dpAll_ints as)) (.cons (.tup (ex_t e hd) (dpAll_ints bs)) .nil)), sh, sh, by rw [eq]; exact k H1 (Ex.refl H1)⟩
/-! ### isinstance of own classes: what the top has left -/
theorem kit_own {K : PySem.W.Frag} {C D : Addr} {b : Bool} (hdct : PySem.W.hasDictIn K D = true) (ht : PySem.W.typeIn K (.ref D) = some (.type "type")) (h4 : PySem.W.subIn K (.ref C) (.ref D) = some b) (hs : PySem.W.subIn K (.ref D) (.ref D) = some true) : PySem.W.kitOne K (.ref C) (.ref D) = some b := by
  obtain ⟨cd, hc, _⟩ := PySem.W.any_some hdct
  have e2 : ((PySem.W.clsIn K D).isSome && PySem.W.typeIn K (.ref D) == some (.type "type")) = true := by rw [hc, ht] <;> rfl
  unfold PySem.W.kitOne
  by_cases e : (Value.ref C == Value.ref D) = true
  · rw [if_pos e]
    have e3 : C = D := by
      have := eq_of_beq e
      injection this
    subst e3
    rw [hs] at h4
    exact h4
  · rw [if_neg e]
    show (if ((PySem.W.clsIn K D).isSome && PySem.W.typeIn K (.ref D) == some (.type "type")) = true then PySem.W.subIn K (.ref C) (.ref D) else none) = some b
    rw [if_pos e2]
    exact h4
end SX

/-! ### the end of a list where an exception is handled -/
namespace SX
open PySem PySem.Spec PyProof.Rows L2 Evl HotX
section
variable {prog : Program} {w : World} {A : Around} {E : Value → Shared → Prop} {s : Shared}
theorem pyNext_list_end_hot {it l x1 : Addr} {i : Nat} {items : Array Value} {Q : Option Value → Shared → Prop} (hot : HotAt A x1 s.heap) (hne : x1 ≠ it)
    (hit : s.heap.IsListIter it l i) (hl : s.heap.IsList l items) (hx : items[i]? = none)
    (hQ : ∀ h', (∀ b o, b ≠ it → s.heap.get? b = some o → h'.get? b = some o) → Q none { s with heap := h' }) : wpAny (model prog w) A (pyNext (.ref it)) Q E s := by
  obtain ⟨o, ho, hc, hd⟩ := id hit
  obtain ⟨ol, hol, _, nl, hdl⟩ := hl
  obtain ⟨hh, o1, vs1, h1, d1, c1⟩ := hot
  unfold pyNext
  refine wpAny_bind (wpAny_attempt (wpAny_callSpecial?_slot (name := Str.ofString "__next__") hit.typeIs slot_listiter_next
    (wpAny_call_entry slot_listiter_next hit.typeIs entry_listiter_next ?_ (args_listiter_next _))))
  show wpAny _ _ (field (.ref it) 0 >>= _) _ _ s
  refine wpAny_bind (wpAny_field ho hd (x := .ref l) rfl ?_)
  show wpAny _ _ (if (Value.ref l == Value.none) = true then _ else _) _ _ s
  rw [if_neg (show ¬ ((Value.ref l == Value.none) = true) from Bool.false_ne_true)]
  show wpAny _ _ (field (.ref it) 1 >>= _) _ _ s
  refine wpAny_bind (wpAny_field ho hd (x := .int i 0) rfl ?_)
  show wpAny _ _ (seqItems? (.ref l) >>= _) _ _ s
  refine wpAny_bind (wpAny_seqItems hol hdl ?_)
  simp only [Int.toNat_natCast, hx]
  refine wpAny_bind (wpAny_rule (wpAny_bind (wpAny_setField ho hd (by simp) ?_)))
  have keep : ∀ b o, b ≠ it → s.heap.get? b = some o → (s.heap.update it (Obj.mapFields (·.setIfInBounds 0 .none))).get? b = some o := fun b o hb e => (Heap.get?_update_other _ _ (Ne.symm hb)).trans e
  have h1' := keep x1 o1 hne h1
  show wpAny _ _ (newExc (.type "StopIteration") [] >>= _) _ _ _
  refine wpAny_bind ?_
  simp only [newExc, newTuple]
  refine wpAny_bind (wpAny_newObj_type ?_ (by size_fits))
  refine wpAny_bind (m := firstArgMember _ _) (wpAny_of_eq (a := Value.none) (by first | rfl | (simp only [firstArgMember]; rfl)) ?_)
  refine wpAny_newObj_type ?_ (by size_fits)
  refine raiseNew_hot ⟨hh, o1, vs1, Heap.get?_push_of_some _ (Heap.get?_push_of_some _ h1'), d1, c1⟩ (Nat.ne_of_lt (Heap.lt_size (Heap.get?_push_of_some _ h1'))) (Heap.get?_push_size _ rfl) rfl (by first | (simp; done) | (simp; omega) | (simp only [Array.size_append]; simp; omega)) ?_
  refine wpAny_bind (wpAny_isInstance (T := "StopIteration") (b := true) ⟨_, Heap.get?_update_self _ (Heap.get?_push_size _ rfl) rfl, rfl⟩ isSubtype_stop ?_)
  refine wpAny_pure (hQ _ fun b o hb e => ?_)
  have e2 := keep b o hb e
  rw [Heap.get?_update_other _ _ (Nat.ne_of_gt (Heap.lt_size (Heap.get?_push_of_some _ e2)))]
  exact Heap.get?_push_of_some _ (Heap.get?_push_of_some _ e2)
theorem walks_list_hot {x1 : Addr} (I ax : Addr) (hne : ax ≠ I) (hx : x1 ≠ I) (items : Array Value) :
    Walks prog w A I [I, ax, x1] [I] items.size (fun i v => items[i]? = some v) (fun i h => (h.IsListIter I ax i ∧ h.IsList ax items) ∧ HotAt A x1 h) where
  sub := fun b hb => by simp at hb; simp [hb]
  frame := fun _ _ _ st hk => ⟨⟨st.1.1.at fun o e => hk I (by simp) o e, st.1.2.at fun o e => hk ax (by simp) o e⟩, by
    obtain ⟨hh, o, vs, e, d, c⟩ := st.2
    exact ⟨hh, o, vs, hk x1 (by simp) o e, d, c⟩⟩
  item := fun i s Q E hi st hQ => by
    refine wpAny_pyNext_list_item st.1.1 st.1.2 (x := items[i]) (by simp [hi]) fun h' hit' hs' => ?_
    refine hQ _ h' s.toks (by simp [hi]) ⟨⟨hit', st.1.2.extBut hs'.extBut hne⟩, ?_⟩ fun b o hb e => hs'.extBut b o (fun h => hb (by simp [h])) e
    obtain ⟨hh, o, vs, e, d, c⟩ := st.2
    exact ⟨hh, o, vs, hs'.extBut x1 o hx e, d, c⟩
  done := fun s Q E st hQ => pyNext_list_end_hot st.2 hx st.1.1 st.1.2 (by simp) fun h' he' => hQ h' s.toks fun b o hb e => he' b o (fun h => hb (by simp [h])) e
  self := fun _ _ _ _ st hQ => wpAny_pyIter_listiter st.1.1 hQ
end
theorem cr_anyH {X : Cx} (hc : L2H.HotC X) : CallR X (.builtin "any") (rAny X.K) := by
  intro pins s σ H vs us Q I r h
  obtain ⟨a, bs, rfl, hs, q⟩ := h
  obtain ⟨its, rv, hl, _⟩ := I.list hs
  rw [Vals.ref1 r]
  have hb := rv.bls
  obtain ⟨x1, hh, o1, v1, g1, d1, c1⟩ := hc.at I
  refine call_any_walk (iter_any hl.isList fun s₂ e2 st hne => ?_)
  subst e2
  have g2 := Heap.get?_push_of_some { cls := Value.type "list_iterator", data := .fields #[.ref a, .int 0 0] } g1
  refine ⟨_, _, _, _, _, _, _, rfl, walks_list_hot (A := X.A.in1) (x1 := x1) _ a hne (Nat.ne_of_lt (Heap.lt_size g1)) its.toArray, ⟨st, hh, o1, v1, g2, d1, c1⟩, truth_bools hb, fun h' tk hk => ?_⟩
  refine ⟨.bl _, H, I.kept fun b o eo => hk b o (fun hmem => ?_) (Heap.get?_push_of_some _ eo), ?_, q⟩
  · rcases List.mem_cons.mp hmem with e1 | hmem
    · exact absurd (e1 ▸ Heap.lt_size eo) (Nat.lt_irrefl _)
    · cases hmem
  · show Value.bool _ = Value.bool _
    rw [← L2.any_range, hb, List.size_toArray, List.length_map]
theorem hotC_suite {X : Cx} {a : Addr} {oe : Obj} {pn : List (Addr × Obj)} {cls : Value} {d : Option Addr} (hz : L2N.Zn cls d oe) (hf : ∃ vs, oe.data = .fields vs) : L2H.HotC (X.suite a ((a, oe) :: pn)) := by
  obtain ⟨vs, hv⟩ := hf
  exact ⟨(a, oe), ⟨rfl, vs, hv, hz.2.2 vs hv⟩, List.mem_cons_self⟩
theorem cr_anyS {X : Cx} {K : PySem.W.Frag} {a : Addr} {oe : Obj} {pn : List (Addr × Obj)} {cls : Value} {d : Option Addr} (hz : L2N.Zn cls d oe) (hf : ∃ vs, oe.data = .fields vs) (h : X.K = K := by rfl) : CallR (X.suite a ((a, oe) :: pn)) (.builtin "any") (rAny K) := by
  subst h
  exact cr_anyH (hotC_suite hz hf)
/-- isinstance(error, C) in the suite, the error's class told -/
def rIsE2 (K : PySem.W.Frag) (cls : Value) (d : Option Addr) (a : Addr) : List V → Hp → VK → Prop := fun xs H Q => ∃ D, cls = .ref D ∧ d = none ∧ ExcC K D ∧ rIsE K D a xs H Q
theorem isi_e {X : Cx} {a : Addr} {cls : Value} {d : Option Addr} {oe : Obj} {pn : List (Addr × Obj)} (hz : L2N.Zn cls d oe) (hf : ∃ vs, oe.data = .fields vs) : CallR (X.suite a ((a, oe) :: pn)) (.builtin "isinstance") (rIsE2 X.K cls d a) := by
  intro pins s σ H xs us Q I r h
  obtain ⟨D, rfl, rfl, C, h⟩ := h
  exact call_isE C hz.zc hf pins s σ H xs us Q I r h
theorem ev_isE {K : PySem.W.Frag} {σ : L2.St} {H : Hp} {ta tb : TE} {a C D : Addr} {b : Bool} (hC : ExcC K D) (h1 : Ev ta σ H (.ref a)) (h2 : Ev tb σ H (.ref C)) (hk : PySem.W.kitOne K (.ref D) (.ref C) = some b) :
    Ev (tCB (rIsE2 K (.ref D) none a) (tCons ta (tCons tb tNil))) σ H (.bl b) := fun H1 e Q q =>
  h1 H1 e _ fun H2 e2 => h2 H2 (e.trans e2) _ fun H3 e3 => ⟨D, rfl, rfl, hC, .ref C, .ref C, b, rfl, fun u r => r, hk, q H3 (e2.trans e3)⟩
theorem ev_isET {K : PySem.W.Frag} {σ : L2.St} {H : Hp} {ta tb : TE} {a D : Addr} {n : String} {b : Bool} (hC : ExcC K D) (h1 : Ev ta σ H (.ref a)) (h2 : Ev tb σ H (.ty n)) (hk : PySem.W.kitOne K (.ref D) (.type n) = some b) :
    Ev (tCB (rIsE2 K (.ref D) none a) (tCons ta (tCons tb tNil))) σ H (.bl b) := fun H1 e Q q =>
  h1 H1 e _ fun H2 e2 => h2 H2 (e.trans e2) _ fun H3 e3 => ⟨D, rfl, rfl, hC, .ty n, .type n, b, rfl, fun u r => r, hk, q H3 (e2.trans e3)⟩
/-! ### defs that may raise, their errors' context none -/
theorem passN {X : Cx} : Passes (L2N.CX X.prog X.w) X E0 := fun _ _ _ _ _ _ _ h => by
  obtain ⟨_, _, _, _, _, _, _, _, _, _, _, _, z⟩ := h
  exact z.elim
theorem takes0N {X : Cx} : L2N.Takes X (fun _ _ _ _ => False) := fun _ _ x => by
  obtain ⟨_, _, _, _, _, _, _, _, _, _, _, _, _, _, _, _, z⟩ := x
  exact z.elim
section
variable {P : Program} {w : World} {K : PySem.W.Frag} {mg : Str → Option Value} {base : Heap}
theorem okN {x qual : Str} {st : Stmt} {f : Addr} {fd : FuncData} {N ps : List Str} {k : Nat} {sp : Sp} (F : Fun K x qual st f fd) (S : FnScope N ps (defScope st)) (len : ∀ vs H Q E, sp vs H Q E → vs.length = ps.length)
    (hbody : ∀ (cdv : Value) (A : Around) (outer : List Env) (s : Shared) (H : Hp) (vs : List V) (Q : VK) (E : XK), Room k (A.deeper (envOfC qual (defScope st) s.heap.objs.size f cdv)) → sp vs H Q E →
      ∃ t, PSs (cxOf (L2N.CX P w) P w K mg base N qual (defScope st) f cdv A outer s H E) (defBody st) t ∧ t { nx := fun _ H' => Q .non H', rt := Q } (start N vs) H) : FnOk P w K mg base (L2N.CX P w) (k + 1) f fd ps sp := by
  obtain ⟨oc, od, kV, doc, pm, an, cdv, ct, osl, rfl, lk, hcd⟩ := F.ex
  exact fn_of lk hcd S len fun A outer s H vs Q E hr hsp => hbody cdv A outer s H vs Q E hr hsp
end
theorem evp_cbP {σ : L2.St} {H : Hp} {r : List V → Hp → VK → Prop} {ta : TA} {R : List V → Hp → Prop} {P : V → Hp → Prop} (h : EvAP ta σ H R) (hr : ∀ vs H1, Ex H H1 → R vs H1 → ∀ Q : VK, (∀ v H2, Ex H1 H2 → P v H2 → Q v H2) → r vs H1 Q) : EvP (tCB r ta) σ H P := fun H1 e Q q =>
  h H1 e _ fun vs H2 e2 p => hr vs H2 (e.trans e2) p Q fun v H3 e3 pv => q v H3 (e2.trans e3) pv
/-- sorted of a new list of ints -/
theorem evp_sortedN {K : PySem.W.Frag} {σ : L2.St} {H : Hp} {te : TE} {ks : List Int} (h : EvL te σ H (ks.map V.int)) : EvP (tCB (rSortedI K) (tCons te tNil)) σ H (fun v H1 => ∃ (p : Addr) (bs : List Int), v = .ref p ∧ H1 p = some (.lst (bs.map V.int)) ∧ bs.Perm ks ∧ bs.Pairwise (· ≤ ·)) :=
  evp_cbP (eap_1 (P1 := fun v H1 => ∃ l, v = .ref l ∧ H1 l = some (.lst (ks.map V.int))) (evp_evL h fun p H1 e1 h1 => ⟨p, rfl, h1⟩)) fun vs H1 e1 hR Q q => by
    obtain ⟨v, rfl, l, rfl, hl⟩ := hR
    exact ⟨l, ks, rfl, sq_of hl, fun bs p hpm hso hp => q _ _ (Ex.new hp) ⟨p, bs, rfl, upd_same, hpm, hso⟩⟩
section
variable {K : PySem.W.Frag} {σ : L2.St} {H H' : Hp} {ta tb te : TE} {tt : TT} {x y z v : V} {D : Ends} {tz tu : TS}
/-- a list of one thing -/
theorem evp_lst1 {P : V → Hp → Prop} (m : Mono P) (h : EvP te σ H P) : EvP (tLst (tCons te tNil)) σ H (fun v H1 => ∃ p x, v = .ref p ∧ H1 p = some (.lst [x]) ∧ P x H1) := fun H1 e Q q =>
  h H1 e _ fun x H2 e2 px => ⟨by show 1 ≤ sizeLine; decide, fun p hp => q _ _ (e2.trans (Ex.new hp)) ⟨p, x, rfl, upd_same, m _ _ _ (Ex.new hp) px⟩⟩
/-- xs + [x] -/
theorem evp_cat1 {P : V → Hp → Prop} {a : Addr} {xs : List V} (m : Mono P) (ha : Ev ta σ H (.ref a)) (hx : H a = some (.lst xs)) (hz : xs.length < 100000) (h : EvP te σ H P) : EvP (tOp rCat ta (tLst (tCons te tNil))) σ H (fun v H1 => ∃ p x, v = .ref p ∧ H1 p = some (.lst (xs ++ [x])) ∧ P x H1) := fun H1 e Q q =>
  ha H1 e _ fun H2 e2 => evp_lst1 m h H2 (e.trans e2) _ fun v H3 e3 ⟨b, x, ev, hb, px⟩ => by
    subst ev
    exact ⟨a, b, xs, [x], rfl, rfl, ((e.trans e2).trans e3) a _ hx, hb, sz_of (by show xs.length + 1 ≤ 100000; omega), fun r hr => q _ _ ((e2.trans e3).trans (Ex.new hr)) ⟨r, x, rfl, upd_same, m _ _ _ (Ex.new hr) px⟩⟩
/-- [..][:k] of such a list -/
theorem evp_take {k : Nat} {th : TO} {R : List Int → Prop} (h : EvP te σ H (fun v H1 => ∃ p ms, v = .ref p ∧ H1 p = some (.lst (ms.map V.int)) ∧ R ms)) (h2 : EvO th σ H (some (k : Int))) : EvP (tSl (rSlL K) te tNoPart th) σ H (fun v H1 => ∃ p ms, v = .ref p ∧ H1 p = some (.lst ((ms.take k).map V.int)) ∧ R ms) := fun H1 e Q q =>
  h H1 e _ fun v H2 e2 ⟨p, ms, ev, hp, hR⟩ => eo_none H2 (e.trans e2) _ fun H3 e3 => h2 H3 ((e.trans e2).trans e3) _ fun H4 e4 => by
    subst ev
    exact ⟨p, _, rfl, sq_of (e4 p _ (e3 p _ hp)), fun r hr => q _ _ (((e2.trans e3).trans e4).trans (Ex.new hr)) ⟨r, ms, rfl, by rw [upd_same, cut_take], hR⟩⟩
theorem putK_le {kvs : List (Key × V)} {k : Key} : (putK kvs k v).length ≤ kvs.length + 1 := by
  unfold putK
  split
  · rw [List.length_map]
    omega
  · rw [List.length_append]
    exact Nat.le_refl _
end
end SX

namespace SX
open PySem PySem.Spec PyProof.Rows L2 Evl
section
variable {K : PySem.W.Frag} {σ : L2.St} {H H' : Hp} {ta tb te : TE} {tt : TT} {x y z v : V} {D : Ends} {tz tu : TS}
/-! ### range with a step, range backwards -/
theorem s_forR3 {ta : TA} {j : Nat} {lo hi c : Int} {n : Nat} (h : EvA ta σ H [.int lo, .int hi, .int c]) (hr : RgC lo hi c n) (Pv : Nat → L2.St → Hp → Prop) (h0 : ∀ H1, Ex H H1 → Pv 0 σ H1)
    (hs : ∀ (i : Nat) σ' H', i < n → Pv i σ' H' → tu { D with nx := Pv (i + 1), ct := Pv (i + 1), bk := D.nx } (σ'.set j (some (.int (lo + (i : Int) * c)))) H') (hd : ∀ σ' H', Pv n σ' H' → D.nx σ' H') : tFor (iRng3 ta) (gName j) tu D σ H :=
  h H (Ex.refl H) _ fun H1 e => ⟨lo, hi, c, n, rfl, hr, for_rangeC Pv (h0 H1 e) hs hd⟩
theorem q_forR3 {ta : TA} {j : Nat} {lo hi c : Int} {n : Nat} (h : EvA ta σ H [.int lo, .int hi, .int c]) (hr : RgC lo hi c n) (Pv : Nat → L2.St → Hp → Prop) (h0 : ∀ H1, Ex H H1 → Pv 0 σ H1)
    (hs : ∀ (i : Nat) σ' H', i < n → Pv i σ' H' → tu { D with nx := Pv (i + 1), ct := Pv (i + 1), bk := tz D } (σ'.set j (some (.int (lo + (i : Int) * c)))) H') (hd : ∀ σ' H', Pv n σ' H' → tz D σ' H') : tSeq (tFor (iRng3 ta) (gName j) tu) tz D σ H :=
  s_forR3 (D := { D with nx := tz D }) h hr Pv h0 hs hd
theorem s_forRev {j n : Nat} (h : Ev ta σ H (.int (n : Int))) (hn : n < 1000000) (Pv : Nat → L2.St → Hp → Prop) (h0 : ∀ H1, Ex H H1 → Pv 0 σ H1)
    (hs : ∀ (i : Nat) σ' H', i < n → Pv i σ' H' → tu { D with nx := Pv (i + 1), ct := Pv (i + 1), bk := D.nx } (σ'.set j (some (.int ((n - 1 - i : Nat) : Int)))) H') (hd : ∀ σ' H', Pv n σ' H' → D.nx σ' H') : tFor (iRevR (tRg1 ta)) (gName j) tu D σ H :=
  h H (Ex.refl H) _ fun H1 e => ⟨(n : Int), rfl, by decide, by decide, by omega, by omega, by
    have e0 : ((n : Int) - 0).toNat = n := by omega
    rw [e0]
    refine for_rangeC Pv (h0 H1 e) (fun i σ' H' hi p => ?_) hd
    have e1 : (0 : Int) + (n : Int) - 1 + (i : Int) * (-1) = ((n - 1 - i : Nat) : Int) := by omega
    show tu { D with nx := Pv (i + 1), ct := Pv (i + 1), bk := D.nx } (σ'.set j (some (.int ((0 : Int) + (n : Int) - 1 + (i : Int) * (-1))))) H'
    rw [e1]
    exact hs i σ' H' hi p⟩
theorem q_forRev {j n : Nat} (h : Ev ta σ H (.int (n : Int))) (hn : n < 1000000) (Pv : Nat → L2.St → Hp → Prop) (h0 : ∀ H1, Ex H H1 → Pv 0 σ H1)
    (hs : ∀ (i : Nat) σ' H', i < n → Pv i σ' H' → tu { D with nx := Pv (i + 1), ct := Pv (i + 1), bk := tz D } (σ'.set j (some (.int ((n - 1 - i : Nat) : Int)))) H') (hd : ∀ σ' H', Pv n σ' H' → tz D σ' H') : tSeq (tFor (iRevR (tRg1 ta)) (gName j) tu) tz D σ H :=
  s_forRev (D := { D with nx := tz D }) h hn Pv h0 hs hd
/-- how many turns -/
def rgN (i j c : Int) : Nat := (if i < j then (j - i - 1) / c + 1 else 0).toNat
theorem rgN_ok {i j c : Int} (hc : 0 < c) (hc2 : c < 1000000) (hi : -1000000000 ≤ i) (hi2 : i < 1000000000) (hj : -1000000000 ≤ j) (hj2 : j < 1000000000) : RgC i j c (rgN i j c) := by
  have hs : Builtin.Range.rangeSize i j c = if i < j then (j - i - 1) / c + 1 else 0 := by
    unfold Builtin.Range.rangeSize
    rw [if_pos hc]
  have hq : 0 ≤ (if i < j then (j - i - 1) / c + 1 else 0) ∧ (if i < j then (j - i - 1) / c + 1 else 0) ≤ 2000000000 := by
    by_cases h : i < j
    · rw [if_pos h]
      have h0 : 0 ≤ (j - i - 1) / c := Int.ediv_nonneg (by omega) (by omega)
      have h1 : (j - i - 1) / c ≤ j - i - 1 := Int.ediv_le_self _ (by omega)
      omega
    · rw [if_neg h]
      decide
  refine ⟨by omega, by omega, ?_, by rw [hs]; unfold rgN; omega⟩
  unfold Builtin.Range.small
  rw [hs, fits_small (by omega) (by omega), fits_small (by omega) (by omega), fits_small (by omega) (by omega), fits_small (by omega) (by omega), if_pos hc, fits_small (by omega) (by omega)]
  simp
/-- a, b = e, e a tuple of two -/
theorem q_twoP {i0 j0 : Nat} {P : V → Hp → Prop} (h : EvP te σ H P) (hP : ∀ v H1, P v H1 → ∃ p x y, v = .ref p ∧ H1 p = some (.tup [x, y])) (k : ∀ p x y H1, Ex H H1 → P (.ref p) H1 → H1 p = some (.tup [x, y]) → tz D ((σ.set i0 (some x)).set j0 (some y)) H1) :
    tSeq (tAsg te (gTup K 2 (gCons (gName i0) (gCons (gName j0) gNil)))) tz D σ H := h H (Ex.refl H) _ fun v H1 e p => by
  obtain ⟨t, x, y, rfl, hp⟩ := hP v H1 p
  exact g_two (st_of hp) (k t x y H1 e p hp)
/-- x, y = a, b -/
theorem q_par {i0 j0 : Nat} (h1 : Ev ta σ H x) (h2 : Ev tb σ H y) (k : ∀ H1, Ex H H1 → tz D ((σ.set i0 (some x)).set j0 (some y)) H1) : tSeq (tPar i0 j0 (tCons ta (tCons tb tNil))) tz D σ H :=
  h1 H (Ex.refl H) _ fun H1 e1 => h2 H1 e1 _ fun H2 e2 => ⟨_, _, rfl, k H2 (e1.trans e2)⟩
theorem rv_isN {x : V} : RV (fun x y H Q => Q (.bl (decide (x = .non))) H) x .non H (.bl (decide (x = .non))) := fun H1 _ _ q => q H1 (Ex.refl H1)
end
end SX

namespace SX
open PySem PySem.Spec PyProof.Rows L2 Evl
/-! ### range(a, b), its ends of any size -/
theorem turn_long {P : Program} {w : World} {K : PySem.W.Frag} {tg : Expr} (it : Addr) (lo : Int) (n : Nat) : Turn P w K tg (Itr lo n) [it] it (fun i h => IsLongIter h it (lo + (i : Nat) * 1) ((n : Int) - (i : Nat)) 1) where
  mem := by simp
  obj := fun i h st b hb => by
    have e : b = it := by simpa using hb
    subst e
    exact ⟨_, st, fun v z => by
      have z' : Data.fields _ = Data.cell v := z
      cases z'⟩
  keep := fun i h h' st k => k it (by simp) _ st
  item := by
    intro X hP hw hK hc i pins s σ H E I hf st hg
    subst hP hw hK
    obtain ⟨f0, f1, f2, f3, f4, f5⟩ := hf it (by simp)
    have W := Walks.longrange (prog := X.prog) (w := X.w) (I.ok.hd hc) it lo 1 n
    refine W.item i s _ _ hg st fun v h' tk hv st' kk => ?_
    obtain ⟨t, rfl⟩ := hv
    have I1 : Inv X pins σ H { s with heap := h', toks := tk } := I.turned (fun b o hb e => kk b o (by simpa using hb) e) f0 f1 f3 f4 f5
    refine ⟨_, rfl, go_of (s := { s with heap := h', toks := tk }) (n := "longrange_iterator") st' rfl rfl (by decide) ⟨.int (lo + i), H, I1, ⟨t, ?_⟩, ⟨rfl, rfl⟩, st', fun b hb => (hf b hb).1⟩⟩
    rw [Int.mul_one]
  done := by
    intro X hP hw hK hc i pins s σ H E I hf st hg
    subst hP hw hK
    obtain ⟨f0, f1, f2, f3, f4, f5⟩ := hf it (by simp)
    exact wpAny_pyNext_long_end (I.ok.hd hc) st (by have : n ≤ i := hg; omega) fun h' eb => ⟨rfl, I.turned (t' := s.toks) (fun b o hb e => eb b o hb e) f0 f1 f3 f4 f5⟩
  self := fun _ _ _ _ _ st h => wpAny_pyIter_longiter st h
section
variable {X : Cx} {tg : Expr}
theorem range_itW {pins : List (Addr × Obj)} {σ : L2.St} {H : Hp} {s : Shared} {R : It → Hp → Prop} {E : Value → Shared → Prop} {lo hi : Int} {t u v : Tok} {tk : Nat} (I : Inv X pins σ H s)
    (q : R (Itr lo (hi - lo).toNat) H) : wpAny (model X.prog X.w) X.A (pyIter (.ref s.heap.objs.size)) (PIE X pins σ tg R) E { s with heap := s.heap.push { cls := .type "range", data := .fields #[.int lo t, .int hi u, .int 1 v] }, toks := tk } := by
  have e1 : lo + ((0 : Nat) : Int) * 1 = lo := by simp
  have e2 : (((hi - lo).toNat : Nat) : Int) - ((0 : Nat) : Int) = Builtin.Range.rangeSize lo hi 1 := by rw [rangeSize_one]; split <;> omega
  have I1 : Inv X pins σ H { s with heap := s.heap.push { cls := .type "range", data := .fields #[.int lo t, .int hi u, .int 1 v] }, toks := tk } := I.kept fun b o e => Heap.get?_push_of_some _ e
  cases hs : Builtin.Range.small lo hi 1 with
  | true =>
    refine wpAny_pyIter_range (IsRange.new ..) hs ?_
    refine ⟨(s.heap.push { cls := .type "range", data := .fields #[.int lo t, .int hi u, .int 1 v] }).objs.size, [(s.heap.push { cls := .type "range", data := .fields #[.int lo t, .int hi u, .int 1 v] }).objs.size], _, _, H, rfl,
      I1.kept (t' := tk) fun b o e => Heap.get?_push_of_some _ e, turn_range _ lo (hi - lo).toNat, ?_, fun b hb => ?_, q⟩
    · show IsRangeIter _ _ (lo + ((0 : Nat) : Int) * 1) ((((hi - lo).toNat : Nat) : Int) - ((0 : Nat) : Int)) 1
      rw [e1, e2]
      exact Heap.get?_push_size _ rfl
    · have e : b = (s.heap.push { cls := .type "range", data := .fields #[.int lo t, .int hi u, .int 1 v] }).objs.size := by simpa using hb
      subst e
      exact I1.fpOk (Nat.le_refl _) (I1.hok.fresh (Nat.le_refl _))
  | false =>
    refine wpAny_pyIter_longrange (IsRange.new ..) hs ?_
    refine ⟨(s.heap.push { cls := .type "range", data := .fields #[.int lo t, .int hi u, .int 1 v] }).objs.size, [(s.heap.push { cls := .type "range", data := .fields #[.int lo t, .int hi u, .int 1 v] }).objs.size], _, _, H, rfl,
      I1.kept (t' := tk) fun b o e => Heap.get?_push_of_some _ e, turn_long _ lo (hi - lo).toNat, ?_, fun b hb => ?_, q⟩
    · show IsLongIter _ _ (lo + ((0 : Nat) : Int) * 1) ((((hi - lo).toNat : Nat) : Int) - ((0 : Nat) : Int)) 1
      rw [e1, e2]
      exact Heap.get?_push_size _ rfl
    · have e : b = (s.heap.push { cls := .type "range", data := .fields #[.int lo t, .int hi u, .int 1 v] }).objs.size := by simpa using hb
      subst e
      exact I1.fpOk (Nat.le_refl _) (I1.hok.fresh (Nat.le_refl _))
def iRng2W (ta : TA) : TI := fun σ H R => ta σ H fun vs H1 => ∃ i j : Int, vs = [.int i, .int j] ∧ R (Itr i (j - i).toNat) H1
theorem pi_range2W {a b : Expr} {ta : TA} {p pos : Pos} (hg : Gl X "range") (hm : X.mg "range" = none) (ha : PA X [a, b] ta) (hs : starEach [a, b] X.env = [(false, eval a X.env), (false, eval b X.env)] := by rfl) (hs2 : starEach [b] X.env = [(false, eval b X.env)] := by rfl) :
    PI X tg (.Call (.Name "range" p) [a, b] [] pos) (iRng2W ta) := by
  refine ⟨fun pins s σ H R I h => ?_⟩
  refine Call_ (ld_blt I hg hm boot_range (PyProof.Rows.callWith_type1 (thn (ha.run pos pins s σ H _ I h) fun us s1 ⟨vs, H1, I1, r1, q1⟩ => ?_) (by rw [hs, hs2]) (by rw [hs2]; rfl)))
  obtain ⟨i, j, e, q⟩ := q1
  subst e
  cases r1 with
  | cons r rr =>
    cases rr with
    | cons r' rr =>
      cases rr
      obtain ⟨t, rfl⟩ := r
      obtain ⟨t', rfl⟩ := r'
      exact call_range_2 (range_itW I1 q)
end
section
variable {K : PySem.W.Frag} {σ : L2.St} {H H' : Hp} {ta tb te : TE} {tt : TT} {x y z v : V} {D : Ends} {tz tu : TS}
theorem s_forRW {ta : TA} {j : Nat} {lo n : Int} (h : EvA ta σ H [.int lo, .int n]) (Pv : Nat → L2.St → Hp → Prop) (h0 : ∀ H1, Ex H H1 → Pv 0 σ H1)
    (hs : ∀ (i : Nat) σ' H', lo + (i : Int) < n → Pv i σ' H' → tu { D with nx := Pv (i + 1), ct := Pv (i + 1), bk := D.nx } (σ'.set j (some (.int (lo + (i : Int))))) H') (hd : ∀ σ' H', Pv (n - lo).toNat σ' H' → D.nx σ' H') : tFor (iRng2W ta) (gName j) tu D σ H :=
  h H (Ex.refl H) _ fun H1 e => ⟨lo, n, rfl, for_range (lo := lo) (n := (n - lo).toNat) Pv (h0 H1 e) (fun i σ' H' hi p => hs i σ' H' (by omega) p) hd⟩
theorem q_forRW {ta : TA} {j : Nat} {lo n : Int} (h : EvA ta σ H [.int lo, .int n]) (Pv : Nat → L2.St → Hp → Prop) (h0 : ∀ H1, Ex H H1 → Pv 0 σ H1)
    (hs : ∀ (i : Nat) σ' H', lo + (i : Int) < n → Pv i σ' H' → tu { D with nx := Pv (i + 1), ct := Pv (i + 1), bk := tz D } (σ'.set j (some (.int (lo + (i : Int))))) H') (hd : ∀ σ' H', Pv (n - lo).toNat σ' H' → tz D σ' H') : tSeq (tFor (iRng2W ta) (gName j) tu) tz D σ H :=
  s_forRW (D := { D with nx := tz D }) h Pv h0 hs hd
/-- [e for i in range(lo, n)] -/
theorem el_lcR2 {ta : TA} {j : Nat} {vs : List Nat} {lo n : Int} (v : Nat → V) (h : EvA ta σ H [.int lo, .int n]) (hn : (n - lo).toNat ≤ 40000) (hb : -100000 ≤ lo ∧ lo ≤ 100000 ∧ -100000 ≤ n ∧ n ≤ 100000) (hw : ∀ x, wipe ((wipe σ vs).set j (some x)) vs = wipe σ vs)
    (he : ∀ (i : Nat) H1, Ex H H1 → lo + (i : Int) < n → Ev te ((wipe σ vs).set j (some (.int (lo + (i : Int))))) H1 (v i)) :
    EvL (tLc (iRng2 ta) (gName j) tYes te vs) σ H (given (n - lo).toNat (fun _ => true) v) := fun H0 e Q q => h H0 e _ fun H1 e1 => ⟨lo, n, rfl, ⟨by omega, by omega, by omega, by omega⟩, fun Dl hD =>
  lc_range (lo := lo) (n := (n - lo).toNat) (Cw H1 (fun _ => true) v Dl) ⟨hD, Ex.new hD, upd_same⟩ (fun i H' hi p => ⟨hw _, cw_turn (t := tYes) (te := te) p (by omega) (fun H4 e4 Q4 q4 => q4 H4 (Ex.refl H4)) fun _ => he i H1 (e.trans e1) (by omega)⟩) (fun H' p => q Dl H' (fresh_back e1 p.1) (e1.trans p.2.1) p.2.2)⟩
end
end SX

namespace SX
open PySem PySem.Spec PyProof.Rows L2 Evl
/-! ### a pair of numbers, or None -/
def OptV (o : Option (Int × Int)) (v : V) (H : Hp) : Prop := match o with
  | none => v = .non
  | some p => ∃ q, v = .ref q ∧ H q = some (.tup ([p.1, p.2].map V.int))
theorem OptV.mono {o : Option (Int × Int)} : Mono (OptV o) := fun v H H' e h => match o, h with
  | none, h => h
  | some p, ⟨q, h, h2⟩ => ⟨q, h, e _ _ h2⟩
def optD : Option (Int × Int) → PyData
  | none => .none
  | some p => .tuple ([p.1, p.2].map PyData.int)
theorem optD_ok (o : Option (Int × Int)) : SeqAt.shaped (optD o) = true := match o with
  | none => by
    unfold optD
    decide
  | some p => shaped_tints [p.1, p.2]
theorem opt_dp {K : PySem.W.Frag} {o : Option (Int × Int)} {v : V} {H : Hp} (h : OptV o v H) : Dp K H v (optD o) := match o, h with
  | none, h => by
    have h : v = .non := h
    subst h
    exact .non
  | some p, ⟨q, h, h2⟩ => by
    subst h
    exact .tup (st_of h2) (dpAll_ints [p.1, p.2])
theorem optD_eq (o u : Option (Int × Int)) : PyData.eqv (optD o) (optD u) = decide (o = u) := by
  cases o with
  | none =>
    cases u with
    | none => rfl
    | some q => rfl
  | some p =>
    cases u with
    | none => rfl
    | some q =>
      unfold optD
      rw [eqv_tints]
      obtain ⟨a, b⟩ := p
      obtain ⟨c, d⟩ := q
      rw [Bool.eq_iff_iff]
      simp
theorem rv_eqOpt {K : PySem.W.Frag} {H : Hp} {o u : Option (Int × Int)} {x y : V} (hx : OptV o x H) (hy : OptV u y H) : RV (rEqD K) x y H (.bl (decide (o = u))) := fun H1 e Q k =>
  ⟨optD o, optD u, opt_dp (OptV.mono _ _ _ e hx), opt_dp (OptV.mono _ _ _ e hy), optD_ok o, optD_ok u, by rw [optD_eq]; exact k H1 (Ex.refl H1)⟩
theorem rv_neOpt {K : PySem.W.Frag} {H : Hp} {o u : Option (Int × Int)} {x y : V} (hx : OptV o x H) (hy : OptV u y H) : RV (rNeD K) x y H (.bl (!decide (o = u))) := fun H1 e Q k =>
  ⟨optD o, optD u, opt_dp (OptV.mono _ _ _ e hx), opt_dp (OptV.mono _ _ _ e hy), optD_ok o, optD_ok u, by rw [optD_eq]; exact k H1 (Ex.refl H1)⟩
section
variable {K : PySem.W.Frag} {σ : L2.St} {H H' : Hp} {ta tb te : TE} {tt : TT} {x y z v : V} {D : Ends} {tz tu : TS}
theorem ev_min2 {i j : Int} (ha : Ev ta σ H (.int i)) (hb : Ev tb σ H (.int j)) : Ev (tCB (fun xs H Q => ∃ i j, xs = [.int i, .int j] ∧ Q (.int (if j < i then j else i)) H) (tCons ta (tCons tb tNil))) σ H (.int (if j < i then j else i)) := fun H1 e Q q =>
  ha H1 e _ fun H2 e2 => hb H2 (e.trans e2) _ fun H3 e3 => ⟨i, j, rfl, q H3 (e2.trans e3)⟩
theorem ev_max2' {i j : Int} (ha : Ev ta σ H (.int i)) (hb : Ev tb σ H (.int j)) : Ev (tCB (fun xs H Q => ∃ i j, xs = [.int i, .int j] ∧ Q (.int (if j > i then j else i)) H) (tCons ta (tCons tb tNil))) σ H (.int (if j > i then j else i)) := fun H1 e Q q =>
  ha H1 e _ fun H2 e2 => hb H2 (e.trans e2) _ fun H3 e3 => ⟨i, j, rfl, q H3 (e2.trans e3)⟩
theorem ev_lenD {a : Addr} {kvs : List (Key × V)} (ha : Ev ta σ H (.ref a)) (h : H a = some (.dK kvs)) : Ev (tCB (fun xs H Q => ∃ a kvs, xs = [V.ref a] ∧ H a = some (.dK kvs) ∧ Q (.int kvs.length) H) (tCons ta tNil)) σ H (.int (kvs.length : Int)) := fun H1 e Q q =>
  ha H1 e _ fun H2 e2 => ⟨a, kvs, rfl, (e.trans e2) a _ h, q H2 e2⟩
/-- d.get(k) -/
theorem ev_dget1 {a : Addr} {kvs : List (Key × V)} {n : Int} (hd : Ev ta σ H (.ref a)) (hk : Ev tb σ H (.int n)) (h : H a = some (.dK kvs)) : Ev (tDGet1 ta tb) σ H ((valV kvs (.inl n)).getD .non) := fun H1 e Q q =>
  hd H1 e _ fun H2 e2 => ⟨a, rfl, .inl ⟨kvs, .inl ((e.trans e2) a _ h)⟩, hk H2 (e.trans e2) _ fun H3 e3 => ⟨_, DGet.k (k := .inl n) (((e.trans e2).trans e3) a _ h), q H3 (e2.trans e3)⟩⟩
theorem s_dputP {P : V → Hp → Prop} {a : Addr} {kvs : List (Key × V)} {n : Int} (h : H a = some (.dK kvs)) (hv : EvP te σ H P) (m : Mono P) (hd : Ev ta σ H (.ref a)) (hk : Ev tb σ H (.int n)) (hz : kvs.length < 100000)
    (k : ∀ v H1, Ex H H1 → P v H1 → D.nx σ (upd H1 a (.dK (putK kvs (.inl n) v)))) : sDPut ta tb te D σ H := hv H (Ex.refl H) _ fun v H1 e1 pv => hd H1 e1 _ fun H2 e2 => hk H2 (e1.trans e2) _ fun H3 e3 =>
  ⟨a, _, rfl, DPut.k (k := .inl n) (((e1.trans e2).trans e3) a _ h) (sz_lt hz), k v H3 ((e1.trans e2).trans e3) (m _ _ _ (e2.trans e3) pv)⟩
theorem rv_notN {x : V} : RV (fun x y H Q => y = .non ∧ Q (.bl (!decide (x = .non))) H) x .non H (.bl (!decide (x = .non))) := fun H1 _ _ q => ⟨rfl, q H1 (Ex.refl H1)⟩
theorem rv_isN2 {x : V} : RV (fun x y H Q => y = .non ∧ Q (.bl (decide (x = .non))) H) x .non H (.bl (decide (x = .non))) := fun H1 _ _ q => ⟨rfl, q H1 (Ex.refl H1)⟩
end
theorem rgN_lt {lo hi c : Int} {i : Nat} (hc : 0 < c) (h : i < rgN lo hi c) : lo + (i : Int) * c < hi := by
  unfold rgN at h
  by_cases hh : lo < hi
  · rw [if_pos hh] at h
    have h1 : (i : Int) ≤ (hi - lo - 1) / c := by omega
    have h2 := (Int.le_ediv_iff_mul_le hc).mp h1
    omega
  · rw [if_neg hh] at h
    exact absurd h (by simp)
/-! ### a dict from a total to its pair -/
structure Pairs (R : Int → Int → Int → Prop) (kvs : List (Key × V)) (H : Hp) : Prop where
  ok : ∀ t v, valV kvs (.inl t) = some v → ∃ a b, R t a b ∧ OptV (some (a, b)) v H
theorem Pairs.nil {R : Int → Int → Int → Prop} {H : Hp} : Pairs R [] H := ⟨fun t v h => by rw [valV_nil] at h; exact nomatch h⟩
theorem Pairs.keep {R : Int → Int → Int → Prop} {kvs : List (Key × V)} {H H' : Hp} (h : Pairs R kvs H) (k : ∀ b ys, H b = some (.tup ys) → H' b = some (.tup ys)) : Pairs R kvs H' := ⟨fun t v ht => by
  obtain ⟨a, b, r, q, hq, h2⟩ := h.ok t v ht
  exact ⟨a, b, r, q, hq, k _ _ h2⟩⟩
theorem Pairs.put {R : Int → Int → Int → Prop} {kvs : List (Key × V)} {H : Hp} {t a b : Int} {v : V} (h : Pairs R kvs H) (r : R t a b) (hv : OptV (some (a, b)) v H) : Pairs R (putK kvs (.inl t) v) H := ⟨fun t' v' ht => by
  rw [valV_put] at ht
  by_cases e : (Sum.inl t' : Key) = .inl t
  · rw [if_pos e] at ht
    injection e with e
    injection ht with ht
    subst e ht
    exact ⟨a, b, r, hv⟩
  · rw [if_neg e] at ht
    exact h.ok t' v' ht⟩
theorem put_len {kvs : List (Key × V)} {k : Key} {v : V} (h : valV kvs k = none) : (putK kvs k v).length = kvs.length + 1 := by
  rw [putK_new v h, List.length_append] <;> rfl
section
variable {K : PySem.W.Frag} {σ : L2.St} {H H' : Hp} {D : Ends} {tu : TS}
theorem s_forNLn {xs : List V} {tl : TE} {j : Nat} (h : EvL tl σ H xs) (Pv : Addr → Nat → L2.St → Hp → Prop) (h0 : ∀ p H1, H p = none → Ex H H1 → H1 p = some (.lst xs) → Pv p 0 σ H1) (hl : ∀ p i σ' H', i ≤ xs.length → Pv p i σ' H' → SqL K H' p xs)
    (hs : ∀ p i x σ' H', xs[i]? = some x → Pv p i σ' H' → tu { D with nx := Pv p (i + 1), ct := Pv p (i + 1), bk := D.nx } (σ'.set j (some x)) H') (hd : ∀ p σ' H', Pv p xs.length σ' H' → D.nx σ' H') : tFor (iList K tl) (gName j) tu D σ H :=
  s_forNL h Pv h0 hl hs hd
end
/-! ### a <= b < c < d as a test -/
section
variable {X : Cx} {a b c d : Expr} {ta tb tc td : TE} {pos : Pos}
theorem pt_chain3 {op op' op2 : CmpOp} {r r' r2 : R2} (ho : OpR X (compareOp op) r) (ho' : OpR X (compareOp op') r') (ho2 : OpR X (compareOp op2) r2) (ha : PE X a ta) (hb : PE X b tb) (hc : PE X c tc) (hd : PE X d td)
    (hm : lastMarks [op, op', op2] [b, c, d] = false := by with_unfolding_all rfl) : PT X (.Compare a [op, op', op2] [b, c, d] pos) (tTest (tChain3 r r' r2 ta tb tc td)) := by
  refine ⟨fun pins s σ H Q I h => ?_⟩
  refine isTrue_chain (thn (ha.run pins s σ H _ I h) fun v s1 ⟨x, H1, I1, r1, q1⟩ => test_link (thn (hb.run pins s1 σ H1 _ I1 q1) fun u s2 ⟨y, H2, I2, r2, q2⟩ =>
    thn (ho pins s2 σ H2 x y v u _ I2 r1 r2 q2) fun e0 s3 ⟨z, H3, I3, r3, k, e, q3⟩ => ?_)) hm
  subst e
  cases r3
  refine wpAny_truthy_bool ?_
  cases k with
  | false =>
    obtain ⟨k', e', q'⟩ := q3
    cases e'
    exact ite_ff ⟨H3, I3, q'⟩
  | true =>
    refine ite_tt (test_link (thn (hc.run pins s3 σ H3 _ I3 q3) fun w' s4 ⟨z', H4, I4, r4, q4⟩ =>
      thn (ho' pins s4 σ H4 y z' u w' _ I4 r2 r4 q4) fun e1 s5 ⟨z2, H5, I5, r5, k2, e2, q5⟩ => ?_))
    subst e2
    cases r5
    refine wpAny_truthy_bool ?_
    cases k2 with
    | false =>
      obtain ⟨k', e', q'⟩ := q5
      cases e'
      exact ite_ff ⟨H5, I5, q'⟩
    | true =>
      refine ite_tt (test_last (thn (hd.run pins s5 σ H5 _ I5 q5) fun w2 s6 ⟨z3, H6, I6, r6, q6⟩ => thn (ho2 pins s6 σ H6 z' z3 w' w2 _ I6 r4 r6 q6) fun e3 s7 ⟨z4, H7, I7, r7, k3, e4, q7⟩ => ?_))
      subst e4
      cases r7
      exact wpAny_truthy_bool ⟨H7, I7, q7⟩
end
theorem op_eqDK {X : Cx} {K : PySem.W.Frag} (hu : X.A.units + 64 < cLine) (h : X.K = K := by rfl) : OpR X (compareOp .Eq) (rEqD K) := h ▸ op_eqD hu
theorem Pairs.imp {R R' : Int → Int → Int → Prop} {kvs : List (Key × V)} {H : Hp} (h : Pairs R kvs H) (i : ∀ t a b, R t a b → R' t a b) : Pairs R' kvs H := ⟨fun t v ht => by
  obtain ⟨a, b, r, q⟩ := h.ok t v ht
  exact ⟨a, b, i _ _ _ r, q⟩⟩
theorem Pairs.none {R : Int → Int → Int → Prop} {kvs : List (Key × V)} {H : Hp} {t : Int} (h : Pairs R kvs H) (hn : ∀ a b, ¬ R t a b) : valV kvs (.inl t) = Option.none := by
  cases hv : valV kvs (.inl t) with
  | none => rfl
  | some v =>
    obtain ⟨a, b, r, _⟩ := h.ok t v hv
    exact absurd r (hn a b)
theorem some_put {kvs : List (Key × V)} {x y : Int} {v : V} (h : (valV kvs (.inl y)).isSome = true) : (valV (putK kvs (.inl x) v) (.inl y)).isSome = true := by
  rw [valV_put]
  split
  · rfl
  · exact h
theorem some_here {kvs : List (Key × V)} {x : Int} {v : V} : (valV (putK kvs (.inl x) v) (.inl x)).isSome = true := by
  rw [valV_put, if_pos rfl]
  rfl
def tri : Nat → Nat
  | 0 => 0
  | n + 1 => tri n + n
def triU : Nat → Nat
  | 0 => 0
  | n + 1 => triU n + (n + 1)
theorem six {N : Int} (a b c d e f : Int) : ∃ v, (v = a ∨ v = b ∨ v = c ∨ v = d ∨ v = e ∨ v = f) ∧ atI ([a, b, c, d, e, f].map V.int) (N % 6) = some (.int v) := by
  have h : N % 6 = 0 ∨ N % 6 = 1 ∨ N % 6 = 2 ∨ N % 6 = 3 ∨ N % 6 = 4 ∨ N % 6 = 5 := by omega
  rcases h with h | h | h | h | h | h <;> rw [h]
  · exact ⟨a, .inl rfl, rfl⟩
  · exact ⟨b, .inr (.inl rfl), rfl⟩
  · exact ⟨c, .inr (.inr (.inl rfl)), rfl⟩
  · exact ⟨d, .inr (.inr (.inr (.inl rfl))), rfl⟩
  · exact ⟨e, .inr (.inr (.inr (.inr (.inl rfl)))), rfl⟩
  · exact ⟨f, .inr (.inr (.inr (.inr (.inr rfl)))), rfl⟩
end SX
namespace NT
theorem pr_small {p s n : Nat} (h : decide (3 ≤ p) && (decide (p % 2 = 1) && (decide (p < (s + 1) * (s + 1)) && (decide (s < 3 + 2 * n) && (List.range n).all fun k => !decide ((3 + 2 * k) ∣ p)))) = true) : Pr p := by
  simp only [Bool.and_eq_true, decide_eq_true_eq, List.all_eq_true, List.mem_range, Bool.not_eq_true', decide_eq_false_iff_not] at h
  exact trial h.1 h.2.1 h.2.2.1 h.2.2.2.1 h.2.2.2.2
theorem pri_small {p : Int} (h : p = 3 ∨ p = 5 ∨ p = 7 ∨ p = 11 ∨ p = 13 ∨ p = 17) : PrI p := by
  rcases h with rfl | rfl | rfl | rfl | rfl | rfl
  · exact ⟨by decide, by decide, pr_small (s := 1) (n := 0) (by decide)⟩
  · exact ⟨by decide, by decide, pr_small (s := 2) (n := 0) (by decide)⟩
  · exact ⟨by decide, by decide, pr_small (s := 2) (n := 0) (by decide)⟩
  · exact ⟨by decide, by decide, pr_small (s := 3) (n := 1) (by decide)⟩
  · exact ⟨by decide, by decide, pr_small (s := 3) (n := 1) (by decide)⟩
  · exact ⟨by decide, by decide, pr_small (s := 4) (n := 1) (by decide)⟩
end NT

namespace SX
open PySem PySem.Spec PyProof.Rows L2 Evl
/-! ### an error whose context is none, where any is taken -/
theorem takesW {X : Cx} {W : WX} (tk : L2.Takes X W) : L2N.Takes X W := fun u s' x => by
  obtain ⟨a, B, sI, pins, σ, H, cls, d, e, I, nb, up, sky, na, os, ag, w⟩ := x
  refine tk u s' ⟨a, B, sI, pins, σ, H, cls, d, e, I, nb, up, ?_, na, os, ag, w⟩
  rcases sky with ⟨h1, h2, h3, oe, vs, h4, h5, h6⟩ | ⟨h1, h2, h3, oe, vs, T, oT, ts, h4, h5, h6⟩ | ⟨h1, h2, h3, oe, vs, T, oT, ts, h4, h5, h6⟩
  · exact .inl ⟨h1, h2, h3, oe, vs, h4, h5.zc, h6⟩
  · exact .inr (.inl ⟨h1, h2, h3, oe, vs, T, oT, ts, h4, h5.zc, h6⟩)
  · exact .inr (.inr ⟨h1, h2, h3, oe, vs, T, oT, ts, h4, h5.zc, h6⟩)
theorem kit_ty2 {K : PySem.W.Frag} {C : Addr} {n : String} {b : Bool} (hm : PySem.W.kitMeta n = true) (h : PySem.W.subIn K (.ref C) (.type n) = some b) : PySem.W.kitOne K (.ref C) (.type n) = some b := by
  have e : (Value.ref C == Value.type n) = false := beq_false_of_ne (fun e => by injection e)
  unfold PySem.W.kitOne
  rw [if_neg (by rw [e] <;> exact Bool.false_ne_true)]
  show (if PySem.W.kitMeta n = true then PySem.W.subIn K (.ref C) (.type n) else none) = some b
  rw [if_pos hm]
  exact h
section
variable {K : PySem.W.Frag} {σ : L2.St} {H H' : Hp} {ta tb te : TE} {t : TT} {x y z v : V} {D : Ends} {tz tu : TS}
theorem s_dropIf {b : Bool} (h : EvT t σ H b) (h1 : b = true → ∀ H1, Ex H H1 → tDrop ta D σ H1) (h2 : b = false → ∀ H1, Ex H H1 → tDrop tb D σ H1) : tDrop (tIf t ta tb) D σ H := h H (Ex.refl H) _ fun H1 e => by
  cases b with
  | true => exact h1 rfl H1 e
  | false => exact h2 rfl H1 e
theorem s_retIf {b : Bool} (h : EvT t σ H b) (h1 : b = true → ∀ H1, Ex H H1 → tRet ta D σ H1) (h2 : b = false → ∀ H1, Ex H H1 → tRet tb D σ H1) : tRet (tIf t ta tb) D σ H := h H (Ex.refl H) _ fun H1 e => by
  cases b with
  | true => exact h1 rfl H1 e
  | false => exact h2 rfl H1 e
theorem s_retX {sp : Sp} {vs : List V} {E : L2.St → XK} {ta : TA} (h : EvA ta σ H vs) (hs : ∀ H1, Ex H H1 → sp vs H1 D.rt (E σ)) : tRet (tCallS sp E ta) D σ H := h H (Ex.refl H) _ fun H1 e => hs H1 e
theorem s_callXP {sp : Sp} {R : List V → Hp → Prop} {E : L2.St → XK} {ta : TA} (h : EvAP ta σ H R) (hs : ∀ vs H1, Ex H H1 → R vs H1 → sp vs H1 (fun _ H2 => D.nx σ H2) (E σ)) : tDrop (tCallS sp E ta) D σ H := h H (Ex.refl H) _ fun vs H1 e r => hs vs H1 e r
theorem q_of {t : TS} (h : t { D with nx := tz D } σ H) : tSeq t tz D σ H := h
theorem evp_dic {P : V → Hp → Prop} (h : ∀ p H1, H1 p = some (.dK []) → P (.ref p) H1) : EvP tDNewK σ H P := fun H1 e Q q p hp => q _ _ (Ex.new hp) (h p _ upd_same)
theorem el_rg {a b : Int} {tr : L2.St → Hp → (Int → Int → Hp → Prop) → Prop} (h : ∀ H1, Ex H H1 → ∀ R : Int → Int → Hp → Prop, (∀ H2, Ex H1 H2 → R a b H2) → tr σ H1 R) (hr : RgOk a b) : EvL (tLstRg tr) σ H (rgV a b) := fun H1 e Q q =>
  h H1 e _ fun H2 e2 => ⟨hr, fun p hp => q p _ (fresh_back e2 hp) (e2.trans (Ex.new hp)) upd_same⟩
theorem rg1_c {n : Int} {σ : L2.St} {H : Hp} (h : Ev te σ H (.int n)) : ∀ H1, Ex H H1 → ∀ R : Int → Int → Hp → Prop, (∀ H2, Ex H1 H2 → R 0 n H2) → tRg1 te σ H1 R := fun H1 e R q => h H1 e _ fun H2 e2 => ⟨n, rfl, q H2 e2⟩
/-- xs[i] = e, e of a kind -/
theorem q_setLP {P : V → Hp → Prop} {l : Addr} {xs : List V} {j : Nat} (hl : H l = some (.lst xs)) (hln : EvP te σ H P) (m : Mono P) (ho : ∀ H1, Ex H H1 → Ev ta σ H1 (.ref l)) (hi : ∀ H1, Ex H H1 → Ev tb σ H1 (.int (j : Int))) (hj : j < xs.length) (k : ∀ v H1, Ex H H1 → P v H1 → tz D σ (upd H1 l (.lst (xs.set j v)))) :
    tSeq (tAsg te (gSub ta tb rSetL)) tz D σ H := hln H (Ex.refl H) _ fun v H1 e1 hv => ho H1 e1 H1 (Ex.refl _) _ fun H2 e2 => hi H2 (e1.trans e2) H2 (Ex.refl _) _ fun H3 e3 =>
  ⟨l, xs, (j : Int), j, rfl, rfl, ((e1.trans e2).trans e3) l _ hl, ixN_nat hj, k v H3 ((e1.trans e2).trans e3) (m _ _ _ (e2.trans e3) hv)⟩
/-- [e for i in range(lo, n) if t] -/
theorem el_lcR2t {ta : TA} {te : TE} {t : TT} {j : Nat} {vs : List Nat} {lo n : Int} (f : Nat → Bool) (v : Nat → V) (h : EvA ta σ H [.int lo, .int n]) (hn : (n - lo).toNat ≤ 40000) (hb : -100000 ≤ lo ∧ lo ≤ 100000 ∧ -100000 ≤ n ∧ n ≤ 100000) (hw : ∀ x, wipe ((wipe σ vs).set j (some x)) vs = wipe σ vs)
    (ht : ∀ (i : Nat) H1, Ex H H1 → lo + (i : Int) < n → EvT t ((wipe σ vs).set j (some (.int (lo + (i : Int))))) H1 (f i)) (he : ∀ (i : Nat) H1, Ex H H1 → lo + (i : Int) < n → f i = true → Ev te ((wipe σ vs).set j (some (.int (lo + (i : Int))))) H1 (v i)) :
    EvL (tLc (iRng2 ta) (gName j) t te vs) σ H (given (n - lo).toNat f v) := fun H0 e Q q => h H0 e _ fun H1 e1 => ⟨lo, n, rfl, ⟨by omega, by omega, by omega, by omega⟩, fun Dl hD =>
  lc_range (lo := lo) (n := (n - lo).toNat) (Cw H1 f v Dl) ⟨hD, Ex.new hD, upd_same⟩ (fun i H' hi p => ⟨hw _, cw_turn p (by omega) (ht i H1 (e.trans e1) (by omega)) fun hf => he i H1 (e.trans e1) (by omega) hf⟩) (fun H' p => q Dl H' (fresh_back e1 p.1) (e1.trans p.2.1) p.2.2)⟩
theorem given_blF (n : Nat) (f g : Nat → Bool) : given n f (fun i => .bl (g i)) = (((List.range n).filter f).map g).map V.bl := by
  unfold given
  rw [List.map_map] <;> rfl
end
/-! ### == of lists of truths -/
theorem layB : ∀ bs : List Bool, PyData.canLayAll0 (bs.map PyData.bool) = true
  | [] => rfl
  | _ :: r => by simp [PyData.canLayAll0, PyData.canLay0, layB r]
theorem depthB : ∀ bs : List Bool, PyData.depthAll (bs.map PyData.bool) = 0
  | [] => rfl
  | _ :: r => by simp [PyData.depthAll, PyData.depth, depthB r]
theorem eqvB : ∀ bs cs : List Bool, PyData.eqvAll (bs.map PyData.bool) (cs.map PyData.bool) = decide (bs = cs)
  | [], [] => by simp [PyData.eqvAll]
  | [], _ :: _ => by simp [PyData.eqvAll]
  | _ :: _, [] => by simp [PyData.eqvAll]
  | a :: r, b :: t => by
    simp only [List.map_cons, PyData.eqvAll, PyData.eqv, eqvB r t]
    cases a <;> cases b <;> by_cases h' : r = t <;> simp [h']
theorem shaped_bls (bs : List Bool) : SeqAt.shaped (.list (bs.map PyData.bool)) = true := by
  simp [SeqAt.shaped, PyData.canLay0, PyData.depth, layB, depthB]
theorem dpAll_bls {K : PySem.W.Frag} {H : Hp} : ∀ bs : List Bool, DpAll K H (bs.map V.bl) (bs.map PyData.bool)
  | [] => .nil
  | n :: r => .cons (.bl n) (dpAll_bls r)
theorem eqv_lbls (bs cs : List Bool) : PyData.eqv (.list (bs.map PyData.bool)) (.list (cs.map PyData.bool)) = decide (bs = cs) := by
  rw [PyData.eqv]
  exact eqvB bs cs
theorem rv_neBB {K : PySem.W.Frag} {H : Hp} {a b : Addr} {bs cs : List Bool} (h1 : SqL K H a (bs.map V.bl)) (h2 : SqL K H b (cs.map V.bl)) : RV (rNeD K) (.ref a) (.ref b) H (.bl (!decide (bs = cs))) := fun H1 e Q q =>
  ⟨_, _, .lst (ex_l e h1) (dpAll_bls bs), .lst (ex_l e h2) (dpAll_bls cs), shaped_bls bs, shaped_bls cs, by rw [eqv_lbls]; exact q H1 (Ex.refl H1)⟩
end SX
namespace SX
open PySem PySem.Spec PyProof.Rows L2 Evl
theorem el_catN {σ : L2.St} {H : Hp} {ta tb : TE} {xs ys : List V} (ha : EvL ta σ H xs) (hb : EvL tb σ H ys) (hz : xs.length + ys.length ≤ 100000) : EvL (tOp rCat ta tb) σ H (xs ++ ys) := fun H1 e Q q =>
  ha H1 e _ fun a H2 hp e2 h2 => hb H2 (e.trans e2) _ fun b H3 hq e3 h3 => ⟨a, b, xs, ys, rfl, rfl, e3 a _ h2, h3, sz_of hz, fun r hr => q r _ (fresh_back (e2.trans e3) hr) ((e2.trans e3).trans (Ex.new hr)) upd_same⟩
theorem LstN.imp {P P' : V → Hp → Prop} {n : Nat} {v : V} {H : Hp} (h : LstN P n v H) (i : ∀ x, P x H → P' x H) : LstN P' n v H := by
  obtain ⟨p, xs, h1, h2, h3, h4⟩ := h
  exact ⟨p, xs, h1, h2, h3, fun x hx => i x (h4 x hx)⟩
end SX

namespace SX
open PySem PySem.Spec PyProof.Rows L2 Evl LamX
/-! ### xs.count(y), flat things -/
section
variable {X : Cx}
theorem cnt_flat {y : V} : ∀ {xs : List V} {us : List Value}, Vals xs us → xs.all flatV = true → us.countP (eqU y) = xs.countP (fun z => eqV z y)
  | _, _, .nil, _ => rfl
  | z :: xs, u :: us, .cons r t, f => by
    rw [List.all_cons, Bool.and_eq_true] at f
    rw [List.countP_cons, List.countP_cons, cnt_flat t f.2, eqU_of r f.1]
def rCntF (K : PySem.W.Frag) : V → List V → Hp → VK → Prop := fun x xs H Q => ∃ (p : Addr) (ys : List V) (y : V), x = .ref p ∧ xs = [y] ∧ SqL K H p ys ∧ flatV y = true ∧ ys.all flatV = true ∧ Q (.int (ys.countP (fun z => eqV z y) : Nat)) H
theorem mt_lcntF : MtR X "list.count" (rCntF X.K) := by
  intro pins s σ H x xs v us Q I rx rxs h
  obtain ⟨p, ys, y, rfl, rfl, hs, fy, fys, q⟩ := h
  cases rx
  cases rxs with
  | cons ry rt =>
    rename_i uy ut
    cases rt
    obtain ⟨its, rv, ⟨⟨cls, dd, data, sl⟩, n, ho, hc, hdn, hd⟩, hlen⟩ := I.list hs
    simp only at hc hd
    subst hc hd
    refine call_meets PySem.F.slot_list_count ⟨_, ho, rfl⟩ PySem.F.entry_list_count (PySem.F.args_list_count_2 _ _)
      (SeqAt.list_countAt p its.toArray n dd sl uy (eqU y)) ⟨ho, fun u hu => mem_eqAt ry fy rv fys u (by simpa using hu), ?_⟩
    refine ⟨.int (ys.countP (fun z => eqV z y) : Nat), H, I.tok _, ⟨s.toks, ?_⟩, q⟩
    show Value.int ((its.toArray.toList.countP (eqU y) : Nat) : Int) s.toks = Value.int ((ys.countP (fun z => eqV z y) : Nat) : Int) s.toks
    rw [show its.toArray.toList = its from rfl, cnt_flat rv fys]
end
/-! ### isinstance in a suite, whatever the error's context -/
theorem isi_z {X : Cx} {a : Addr} {cls : Value} {d : Option Addr} {oe : Obj} {pn : List (Addr × Obj)} (hz : Zc cls d oe) (hf : ∃ vs, oe.data = .fields vs) : CallR (X.suite a ((a, oe) :: pn)) (.builtin "isinstance") (rIsE2 X.K cls d a) := by
  intro pins s σ H xs us Q I r h
  obtain ⟨D, rfl, rfl, C, h⟩ := h
  exact call_isE C hz hf pins s σ H xs us Q I r h
/-! ### a lambda handed to a def -/
theorem takesL {X : Cx} {W : WX} {n : Nat} (hn : X.N.length = n) (tk : L2.Takes X W) : L2.Takes X (fun cls d σ H => σ.length = n → W cls d σ H) := fun u s' ⟨a, B, sI, pins, σ, H, cls, d, e, I, nb, up, sky, na, os, ag, w⟩ =>
  tk u s' ⟨a, B, sI, pins, σ, H, cls, d, e, I, nb, up, sky, na, os, ag, w (I.len.trans hn)⟩
theorem pe_lam {X : Cx} {T : List (Addr × Str)} {TT : (XK → Hp → VK → Prop) → Hp → VK → Prop} {x a : Str} {st : Stmt} {g c P : Addr} {fd : FuncData} {k : Nat} {Ng : List Str} {params : Arguments} {body : Expr} {scope : Scope} {t : XK → TE} {p lpos pos : Pos}
    (D : Dfn X.K X.mg x x st [a] g fd) (hg : Gl X x) (Sg : FnScope Ng [a] (defScope st)) (hNg : Ng[0]? = some a) (hva : Vis (defScope st) a) (hG : ∀ cdv, GivesTo X Ng x (defScope st) g cdv (defBody st) a (X.env.qual ++ "<lambda>") TT)
    (TB : LamX.TabB X.base X.mg c P) (hcode : X.env.code = .ref c) (hmT : (P, X.env.qual ++ "<lambda>") ∈ T) (hu : ∀ p ∈ T, p.1 = P → p.2 = X.env.qual ++ "<lambda>") (hr : Room (k + 2) X.A) (L : LamS X.env.scope scope) (hdef : defaultsOf params X.env = ([], []))
    (hbind : ∀ (q : Str) (cl : List (Str × Addr)) (pm cv ctv : Value), bindArgs (PySem.W.kla_fn "<lambda>" q params body scope cl pm cv ctv) ⟨[], []⟩ = pure [])
    (hbody : ∀ (A : Around) (outer : List Env) (s : Shared) (H : Hp) (E : XK) (f c' : Addr), Room k (A.deeper (lamEnv X scope s.heap.objs.size f c')) → PE (lamCx X A outer s H E scope f c') body (t E))
    (hdb : (x == ("__debug__" : Str)) = false := by decide) (hd : (a == ("__debug__" : Str)) = false := by decide) (hcd : (a == ("__classdict__" : Str)) = false := by decide) :
    PE X (.Call (.Name x p) [.Lambda params body scope lpos] [] pos) (tLam T TT t) := by
  obtain ⟨⟨⟨oc, od, kV, doc, pm, an, cdv, ct, osl, rfl, lk, hcg⟩, hk⟩, hm, hb⟩ := D
  exact pe_lamcall hg hm hk lk hcg hb Sg hNg hva (hG cdv) TB hcode hmT hu hr L hdef hbind hbody hdb hd hcd
theorem exn_of {H H' : Hp} (e : Ex H H') : ExtN H H' := fun b o h _ => e b o h
theorem exn_lst {H H' : Hp} {a : Addr} {xs : List V} (e : ExtN H H') (h : H a = some (.lst xs)) : H' a = some (.lst xs) := e a _ h fun ps z => by cases z
theorem exn_l {K : PySem.W.Frag} {H H' : Hp} {a : Addr} {xs : List V} (e : ExtN H H') (h : SqL K H a xs) : SqL K H' a xs := by
  rcases h with (h | ⟨o, h⟩) | h
  · exact .inl (.inl (exn_lst e h))
  · exact .inl (.inr ⟨o, e a _ h fun ps z => by cases z⟩)
  · exact .inr h
/-! ### comprehensions over a tuple, over a list; what each turn gives, told by a word -/
section
variable {K : PySem.W.Frag} {σ : L2.St} {H H' : Hp} {ta tb te : TE} {tt : TT} {x y z v : V} {D : Ends} {tz tu : TS}
/-- the items so far -/
def Each (R : Nat → V → Hp → Prop) (n : Nat) (xs : List V) (H : Hp) : Prop := xs.length = n ∧ ∀ (i : Nat) (x : V), xs[i]? = some x → R i x H
theorem Each.mono {R : Nat → V → Hp → Prop} {n : Nat} (m : ∀ i, Mono (R i)) : MonoA (Each R n) := fun _ _ _ e ⟨h, q⟩ => ⟨h, fun i x hx => m i _ _ _ e (q i x hx)⟩
def LstE (R : Nat → V → Hp → Prop) (n : Nat) : V → Hp → Prop := fun v H => ∃ p xs, v = .ref p ∧ H p = some (.lst xs) ∧ Each R n xs H
theorem Each.snoc {R : Nat → V → Hp → Prop} {n : Nat} {xs : List V} {H : Hp} {y : V} (h : Each R n xs H) (hy : R n y H) : Each R (n + 1) (xs ++ [y]) H := ⟨by rw [List.length_append, h.1] <;> rfl, fun i x hx => by
  by_cases hi : i < n
  · rw [List.getElem?_append_left (by rw [h.1]; exact hi)] at hx
    exact h.2 i x hx
  · have e : i = n := by
      have := (List.getElem?_eq_some_iff.mp hx).1
      rw [List.length_append, h.1] at this
      simp at this
      omega
    subst e
    rw [List.getElem?_append_right (by rw [h.1]; exact Nat.le_refl _), h.1] at hx
    simp at hx
    exact hx ▸ hy⟩
def KeepT (H H' : Hp) : Prop := ∀ b ys, H b = some (.tup ys) → H' b = some (.tup ys)
theorem keepT_ex {H H' : Hp} (e : Ex H H') : KeepT H H' := fun b ys h => e b _ h
theorem keepT_upd {H H' : Hp} {p : Addr} {xs ys : List V} (e : Ex H H') (h : H p = some (.lst xs)) : KeepT H (upd H' p (.lst ys)) := fun b zs hb => by
  rw [upd_ne (fun z => by rw [z, h] at hb; cases hb)]
  exact e b _ hb
theorem Each.keep {R : Nat → V → Hp → Prop} {n : Nat} {xs : List V} {H H' : Hp} (m : ∀ i x H H', KeepT H H' → R i x H → R i x H') (k : KeepT H H') (h : Each R n xs H) : Each R n xs H' := ⟨h.1, fun i x hx => m i x _ _ k (h.2 i x hx)⟩
theorem evp_lcT {xs : List V} {j : Nat} {vs : List Nat} {R : Nat → V → Hp → Prop} (m : ∀ i x H H', KeepT H H' → R i x H → R i x H') (h : EvU ta σ H xs) (hz : xs.length ≤ 40000) (hw : ∀ x, wipe ((wipe σ vs).set j (some x)) vs = wipe σ vs)
    (he : ∀ (i : Nat) (x : V) H1, Ex H H1 → (∃ a, H1 a = some (.tup xs)) → xs[i]? = some x → EvP te ((wipe σ vs).set j (some x)) H1 (R i)) : EvP (tLc (iTup K ta) (gName j) tYes te vs) σ H (LstE R xs.length) := fun H0 e Q q => h H0 e _ fun a H1 ha e1 hx => ⟨a, rfl, ⟨xs, st_of hx⟩, fun Dl hD =>
  lc_tup (xs := xs) (fun i H' => ∃ acc, H1 Dl = none ∧ Ex H1 H' ∧ H' Dl = some (.lst acc) ∧ Each R i acc H') ⟨[], hD, Ex.new hD, upd_same, rfl, fun i x hx => by simp at hx⟩ (fun i H' _ ⟨_, _, p, _⟩ => st_of (p a _ hx)) (fun i x H' hi ⟨acc, p1, p2, p3, p4⟩ => ⟨hw x, by
      refine tyes_if ?_
      refine he i x H' ((e.trans e1).trans p2) ⟨a, p2 a _ hx⟩ hi H' (Ex.refl _) _ fun y H4 e4 hy => ?_
      have hi2 := (List.getElem?_eq_some_iff.mp hi).1
      have h4 := e4 Dl _ p3
      refine ⟨acc, h4, sz_lt (by rw [p4.1]; omega), acc ++ [y], p1, Ex.mut (p2.trans e4) p1, upd_same, ?_⟩
      exact (Each.keep m (keepT_ex e4) p4 |> Each.keep m (keepT_upd (Ex.refl _) h4)).snoc (m _ _ _ _ (keepT_upd (Ex.refl _) h4) hy)⟩) fun H' ⟨acc, p1, p2, p3, p4⟩ => q _ _ (e1.trans p2) ⟨Dl, acc, rfl, p3, p4⟩⟩
/-- values told beforehand -/
theorem el_lcT {xs : List V} {j : Nat} {vs : List Nat} (v : Nat → V) (h : EvP ta σ H (fun x H1 => ∃ a, x = .ref a ∧ H1 a = some (.tup xs))) (hz : xs.length ≤ 40000) (hw : ∀ x, wipe ((wipe σ vs).set j (some x)) vs = wipe σ vs)
    (he : ∀ (i : Nat) (x : V) H1, Ex H H1 → xs[i]? = some x → Ev te ((wipe σ vs).set j (some x)) H1 (v i)) : EvL (tLc (iTup K ta) (gName j) tYes te vs) σ H (given xs.length (fun _ => true) v) := fun H0 e Q q => h H0 e _ fun x H1 e1 hx => by
  obtain ⟨a, rfl, hx⟩ := hx
  exact ⟨a, rfl, ⟨xs, st_of hx⟩, fun Dl hD =>
    lc_tup (xs := xs) (Cw H1 (fun _ => true) v Dl) ⟨hD, Ex.new hD, upd_same⟩ (fun i H' _ p => st_of (p.2.1 a _ hx)) (fun i x H' hi p => ⟨hw x, cw_turn (t := tYes) (te := te) p (by have := (List.getElem?_eq_some_iff.mp hi).1; omega) (fun H4 e4 Q4 q4 => q4 H4 (Ex.refl H4)) fun _ => he i x H1 (e.trans e1) hi⟩) (fun H' p => q Dl H' (fresh_back e1 p.1) (e1.trans p.2.1) p.2.2)⟩
end
theorem ev_bmL {K : PySem.W.Frag} {σ : L2.St} {H : Hp} {ta : TE} {tb : TA} {r : V → List V → Hp → VK → Prop} {l : Addr} {xs vs : List V} {z : V} (ha : Ev ta σ H (.ref l)) (hl : SqL K H l xs) (h : EvA tb σ H vs) (hr : ∀ H1, Ex H H1 → ∀ Q : VK, (∀ H2, Ex H1 H2 → Q z H2) → r (.ref l) vs H1 Q) :
    Ev (tBM K "list" r ta tb) σ H z := fun H1 e Q q => ha H1 e _ fun H2 e2 => ⟨Or.inl ⟨rfl, xs, ex_l (e.trans e2) hl⟩, h H2 (e.trans e2) _ fun H3 e3 => hr H3 ((e.trans e2).trans e3) _ fun H4 e4 => q H4 ((e2.trans e3).trans e4)⟩
/-! ### methods where the frame's K is to be named -/
section
variable {X : Cx} {K : PySem.W.Frag} {o e : Expr} {es : List Expr} {to : TE} {t : TA} {name : Str} {apos cpos : Pos} {T id : String} {r : V → List V → Hp → VK → Prop}
theorem pe_bmK (pa : PlainAttrs T) (slot : Slot T name id) (hty : typeOf (.builtin id) = pure (.type "method_descriptor")) (hm : MtR X id r) (ho : PE X o to) (ha : PA X (e :: es) t) (hK : X.K = K := by rfl)
    (hbase : attributeBase o name X.env (eval o X.env) = eval o X.env := by rfl)
    (hfew : ((backTo cpos (starEach (e :: es) X.env)).all (fun x => !x.1) && (backToKw cpos (keywordEach [] X.env)).all (fun x => x.1.isSome)
      && decide ((e :: es).length + ([] : List Keyword).length + (if ([] : List Keyword).isEmpty then 0 else 1) < 30)) = true := by rfl)
    (hline : (apos.endLine == cpos.line) = true := by rfl) (hs : starEach (e :: es) X.env = (false, eval e X.env) :: starEach es X.env := by rfl) (hplain : (backTo cpos (starEach es X.env)).any (·.1) = false := by rfl) :
    PE X (.Call (.Attribute o name apos) (e :: es) [] cpos) (tBM K T r to t) := by
  subst hK
  exact pe_bm pa slot hty hm ho ha hbase hfew hline hs hplain
theorem mt_lcntFK (hK : X.K = K := by rfl) : MtR X "list.count" (rCntF K) := hK ▸ mt_lcntF
theorem mt_indexK (hK : X.K = K := by rfl) : MtR X "list.index" (rIndex K) := hK ▸ mt_index
end
end SX

/-! plain mathematics: the sums of all pairs in two orders -/
namespace SM
def progTo (f : Nat → Nat → Int) (n i : Nat) : List Int := (List.range i).flatMap fun k => (List.range' k (n - k)).map (f k)
def lawTo (f : Nat → Nat → Int) (i : Nat) : List Int := (List.range i).flatMap fun k => (List.range (k + 1)).map fun j => f j k
theorem flatMap_snoc {α : Type} (g : α → List Int) (h : α → Int) : ∀ l : List α, (l.flatMap fun k => g k ++ [h k]).Perm (l.flatMap g ++ l.map h)
  | [] => by simp
  | a :: r => by
    have ih := flatMap_snoc g h r
    simp only [List.flatMap_cons, List.map_cons, List.append_assoc]
    refine List.Perm.append_left _ ?_
    show (h a :: List.flatMap (fun k => g k ++ [h k]) r).Perm (List.flatMap g r ++ h a :: List.map h r)
    exact (ih.cons (h a)).trans List.perm_middle.symm
theorem prog_succ (f : Nat → Nat → Int) (n : Nat) : progTo f n (n + 1) = progTo f n n := by
  unfold progTo
  rw [List.range_succ, List.flatMap_append]
  simp
theorem prog_step (f : Nat → Nat → Int) (n : Nat) : (progTo f (n + 1) (n + 1)).Perm (progTo f n n ++ (List.range (n + 1)).map fun j => f j n) := by
  have e : progTo f (n + 1) (n + 1) = (List.range (n + 1)).flatMap fun k => (List.range' k (n - k)).map (f k) ++ [f k n] := by
    unfold progTo
    rw [List.flatMap_def, List.flatMap_def]
    congr 1
    refine List.map_congr_left fun k hk => ?_
    have hk : k < n + 1 := List.mem_range.mp hk
    have e1 : n + 1 - k = (n - k) + 1 := by omega
    have e2 : k + 1 * (n - k) = n := by omega
    rw [e1, List.range'_concat, List.map_append, e2, List.map_singleton]
  rw [e]
  refine (flatMap_snoc _ _ _).trans ?_
  have e3 : (List.range (n + 1)).flatMap (fun k => (List.range' k (n - k)).map (f k)) = progTo f n (n + 1) := rfl
  rw [e3, prog_succ]
theorem law_step (f : Nat → Nat → Int) (n : Nat) : lawTo f (n + 1) = lawTo f n ++ (List.range (n + 1)).map fun j => f j n := by
  unfold lawTo
  rw [List.range_succ, List.flatMap_append]
  simp [List.range_succ]
theorem perm_all (f : Nat → Nat → Int) : ∀ n, (progTo f n n).Perm (lawTo f n)
  | 0 => by simp [progTo, lawTo]
  | n + 1 => by
    rw [law_step]
    exact (prog_step f n).trans ((perm_all f n).append_right _)
theorem nodup_iff (f : Nat → Nat → Int) (n : Nat) : (progTo f n n).Nodup ↔ (lawTo f n).Nodup := (perm_all f n).nodup_iff
theorem prog_next (f : Nat → Nat → Int) (n i : Nat) : progTo f n (i + 1) = progTo f n i ++ (List.range' i (n - i)).map (f i) := by
  unfold progTo
  rw [List.range_succ, List.flatMap_append]
  simp
theorem law_len (f : Nat → Nat → Int) : ∀ n, 2 * (lawTo f n).length = n * (n + 1)
  | 0 => rfl
  | n + 1 => by
    have ih := law_len f n
    rw [law_step, List.length_append, List.length_map, List.length_range, Nat.mul_add, ih, Nat.mul_comm 2 (n + 1), Nat.mul_comm n (n + 1), ← Nat.mul_add]
theorem law_le (f : Nat → Nat → Int) {n : Nat} (h : n ≤ 50) : (lawTo f n).length ≤ 1275 := by
  have e := law_len f n
  have h2 : n * (n + 1) ≤ 50 * 51 := Nat.mul_le_mul h (by omega)
  omega
theorem prog_le (f : Nat → Nat → Int) {n i : Nat} (hi : i ≤ n) (h : n ≤ 50) : (progTo f n i).length ≤ 2500 := by
  have hl : ∀ i, i ≤ n → (progTo f n i).length ≤ i * n := by
    intro i
    induction i with
    | zero => intro _; simp [progTo]
    | succ i ih =>
      intro hi
      have := ih (by omega)
      rw [prog_next, List.length_append, List.length_map, List.length_range', Nat.succ_mul]
      omega
  have h1 := hl i hi
  have h2 : i * n ≤ 50 * 50 := Nat.mul_le_mul (by omega) h
  omega
/-- the sum of two marks by their counts -/
def two (ms : List Int) (j k : Nat) : Int := ms.getD j 0 + ms.getD k 0
def Apart (ms : List Int) : Prop := (lawTo (two ms) ms.length).Nodup
instance (ms : List Int) : Decidable (Apart ms) := inferInstanceAs (Decidable (List.Nodup _))
/-- a pair of counts below n -/
def isPair : List Int → Int → Bool
  | [a, b], n => (decide (0 ≤ a) && decide (a < n)) && ((decide (0 ≤ b) && decide (b < n)) && decide (a ≤ b))
  | _, _ => false
def okPair : List Int → Int → Bool
  | [a, b], n => decide (0 ≤ a) && (decide (a ≤ b) && decide (b < n))
  | _, _ => false
theorem pair_same (ns : List Int) (n : Int) : isPair ns n = okPair ns n := by
  unfold isPair okPair
  split
  · rename_i a b
    rw [Bool.eq_iff_iff]
    simp only [Bool.and_eq_true, decide_eq_true_eq]
    omega
  · rfl
def sumAt (ms ns : List Int) : Int := ms.getD (ns.getD 0 0).toNat 0 + ms.getD (ns.getD 1 0).toNat 0
/-- whether two pairs are shown by the marks -/
def tells2 (ms as bs : List Int) : Bool := isPair as ms.length && (isPair bs ms.length && (!decide (as = bs) && decide (sumAt ms as = sumAt ms bs)))
end SM

/-! pairs of counts; rising lists -/
namespace SM
def prTo (n i : Nat) : List (Nat × Nat) := (List.range i).flatMap fun k => (List.range' k (n - k)).map fun j => (k, j)
def prs (n : Nat) : List (Nat × Nat) := prTo n n
theorem prTo_next (n i : Nat) : prTo n (i + 1) = prTo n i ++ (List.range' i (n - i)).map fun j => (i, j) := by
  unfold prTo
  rw [List.range_succ, List.flatMap_append]
  simp
theorem prTo_le {n i : Nat} (hi : i ≤ n) (h : n ≤ 50) : (prTo n i).length ≤ 2500 := by
  have hl : ∀ i, i ≤ n → (prTo n i).length ≤ i * n := by
    intro i
    induction i with
    | zero => intro _; simp [prTo]
    | succ i ih =>
      intro hi
      have := ih (by omega)
      rw [prTo_next, List.length_append, List.length_map, List.length_range', Nat.succ_mul]
      omega
  have h1 := hl i hi
  have h2 : i * n ≤ 50 * 50 := Nat.mul_le_mul (by omega) h
  omega
theorem prs_map (f : Nat → Nat → Int) (n : Nat) : (prs n).map (fun p => f p.1 p.2) = progTo f n n := by
  unfold prs prTo progTo
  rw [List.map_flatMap]
  congr 1
  funext k
  rw [List.map_map]
  rfl
theorem mem_prs {n a b : Nat} : (a, b) ∈ prs n ↔ a ≤ b ∧ b < n := by
  unfold prs prTo
  simp only [List.mem_flatMap, List.mem_range, List.mem_map, List.mem_range'_1, Prod.mk.injEq]
  constructor
  · rintro ⟨k, hk, j, hj, rfl, rfl⟩
    omega
  · intro h
    exact ⟨a, by omega, b, by omega, rfl, rfl⟩
theorem prs_nodup (n : Nat) : (prs n).Nodup := by
  unfold prs prTo List.Nodup
  rw [List.pairwise_flatMap]
  refine ⟨fun k hk => ?_, ?_⟩
  · refine List.pairwise_map.mpr (List.Pairwise.imp ?_ (List.nodup_range' (s := k) (n := n - k)))
    intro a b h e
    injection e with _ e
    exact h e
  · refine List.Pairwise.imp ?_ (List.nodup_range (n := n))
    intro a b h x hx y hy e
    obtain ⟨i, _, rfl⟩ := List.mem_map.mp hx
    obtain ⟨j, _, rfl⟩ := List.mem_map.mp hy
    injection e with e _
    exact h e
theorem inj_of_nodup {α : Type} (f : α → Int) : ∀ l : List α, (l.map f).Nodup → ∀ x ∈ l, ∀ y ∈ l, f x = f y → x = y
  | [], _, x, hx, _, _, _ => absurd hx (by simp)
  | a :: l, h, x, hx, y, hy, e => by
    rw [List.map_cons, List.nodup_cons] at h
    rcases List.mem_cons.mp hx with h1 | h1 <;> rcases List.mem_cons.mp hy with h2 | h2
    · rw [h1, h2]
    · exact absurd (List.mem_map.mpr ⟨y, h2, by rw [← e, h1]⟩) h.1
    · exact absurd (List.mem_map.mpr ⟨x, h1, by rw [e, h2]⟩) h.1
    · exact inj_of_nodup f l h.2 x h1 y h2 e
theorem apart_prs (ms : List Int) : Apart ms ↔ ((prs ms.length).map fun p => two ms p.1 p.2).Nodup := by
  unfold Apart
  rw [prs_map, nodup_iff]
theorem apart_inj {ms : List Int} (h : Apart ms) {a b c d : Nat} (h1 : a ≤ b) (h2 : b < ms.length) (h3 : c ≤ d) (h4 : d < ms.length) (e : two ms a b = two ms c d) : a = c ∧ b = d := by
  have h5 := inj_of_nodup _ _ ((apart_prs ms).mp h) (a, b) (mem_prs.mpr ⟨h1, h2⟩) (c, d) (mem_prs.mpr ⟨h3, h4⟩) e
  injection h5 with h6 h7
  exact ⟨h6, h7⟩
/-- a list of counts of two marks -/
def pl (p : Nat × Nat) : List Int := [(p.1 : Int), (p.2 : Int)]
theorem sumAt_pl (ms : List Int) (p : Nat × Nat) : sumAt ms (pl p) = two ms p.1 p.2 := by
  unfold sumAt pl two
  rfl
theorem tells_of {ms : List Int} {p q : Nat × Nat} (hp : p ∈ prs ms.length) (hq : q ∈ prs ms.length) (hne : p ≠ q) (e : two ms p.1 p.2 = two ms q.1 q.2) : tells2 ms (pl p) (pl q) = true := by
  obtain ⟨a, b⟩ := p
  obtain ⟨c, d⟩ := q
  have h1 := mem_prs.mp hp
  have h2 := mem_prs.mp hq
  unfold tells2
  rw [sumAt_pl, sumAt_pl, decide_eq_true e]
  have h3 : isPair (pl (a, b)) ms.length = true := by
    unfold pl isPair
    simp only [Bool.and_eq_true, decide_eq_true_eq]
    omega
  have h4 : isPair (pl (c, d)) ms.length = true := by
    unfold pl isPair
    simp only [Bool.and_eq_true, decide_eq_true_eq]
    omega
  have h5 : decide (pl (a, b) = pl (c, d)) = false := decide_eq_false fun h => hne (by
    unfold pl at h
    simp only [List.cons.injEq, Int.natCast_inj, and_true] at h
    rw [h.1, h.2])
  rw [h3, h4, h5]
  rfl
theorem not_apart {ms as bs : List Int} (h : tells2 ms as bs = true) : ¬ Apart ms := fun ha => by
  unfold tells2 at h
  simp only [Bool.and_eq_true, Bool.not_eq_true', decide_eq_false_iff_not, decide_eq_true_eq] at h
  obtain ⟨h1, h2, h3, h4⟩ := h
  match as, h1 with
  | [a, b], h1 =>
    match bs, h2 with
    | [c, d], h2 =>
      unfold isPair at h1 h2
      simp only [Bool.and_eq_true, decide_eq_true_eq] at h1 h2
      obtain ⟨a', rfl⟩ := Int.eq_ofNat_of_zero_le h1.1.1
      obtain ⟨b', rfl⟩ := Int.eq_ofNat_of_zero_le h1.2.1.1
      obtain ⟨c', rfl⟩ := Int.eq_ofNat_of_zero_le h2.1.1
      obtain ⟨d', rfl⟩ := Int.eq_ofNat_of_zero_le h2.2.1.1
      have e : two ms a' b' = two ms c' d' := h4
      have h5 := apart_inj ha (by omega) (by omega) (by omega) (by omega) e
      exact h3 (by rw [h5.1, h5.2])
/-- the sums of the pairs, told one by one -/
theorem apart_at {ms : List Int} (h : ∀ i j : Nat, i < j → ∀ p q, (prs ms.length)[i]? = some p → (prs ms.length)[j]? = some q → two ms p.1 p.2 ≠ two ms q.1 q.2) : Apart ms := by
  rw [apart_prs]
  unfold List.Nodup
  rw [List.pairwise_map, List.pairwise_iff_getElem]
  intro i j hi hj hij
  exact h i j hij _ _ (List.getElem?_eq_getElem hi) (List.getElem?_eq_getElem hj)
theorem prs_ne {n i j : Nat} {p q : Nat × Nat} (hi : (prs n)[i]? = some p) (hj : (prs n)[j]? = some q) (hij : i < j) : p ≠ q := by
  obtain ⟨h1, rfl⟩ := List.getElem?_eq_some_iff.mp hi
  obtain ⟨h2, rfl⟩ := List.getElem?_eq_some_iff.mp hj
  exact List.pairwise_iff_getElem.mp (prs_nodup n) i j h1 h2 hij
/-! ### rising -/
theorem rise_adj (ns : List Int) : (((List.range (ns.length - 1)).map fun i => decide (ns.getD i 0 < ns.getD (i + 1) 0)).all id) = decide (ns.Pairwise (· < ·)) := by
  rw [Bool.eq_iff_iff, List.all_eq_true, decide_eq_true_eq]
  have gd : ∀ i (h : i < ns.length), ns.getD i 0 = ns[i] := fun i h => by
    rw [List.getD_eq_getElem?_getD, List.getElem?_eq_getElem h] <;> rfl
  constructor
  · intro h
    have adj : ∀ i, i + 1 < ns.length → ns.getD i 0 < ns.getD (i + 1) 0 := fun i hi => by
      have := h _ (List.mem_map.mpr ⟨i, List.mem_range.mpr (by omega), rfl⟩)
      exact of_decide_eq_true this
    rw [List.pairwise_iff_getElem]
    intro i j hi hj hij
    rw [← gd i hi, ← gd j hj]
    obtain ⟨k, rfl⟩ : ∃ k, j = i + 1 + k := ⟨j - (i + 1), by omega⟩
    clear hij
    induction k with
    | zero => exact adj i hj
    | succ k ih => exact Int.lt_trans (ih (by omega)) (adj (i + 1 + k) (by omega))
  · intro h b hb
    obtain ⟨i, hi, rfl⟩ := List.mem_map.mp hb
    have hi := List.mem_range.mp hi
    rw [List.pairwise_iff_getElem] at h
    refine decide_eq_true ?_
    rw [gd i (by omega), gd (i + 1) (by omega)]
    exact h i (i + 1) (by omega) (by omega) (by omega)
end SM

/-! what can be put behind -/
namespace SM
theorem gd {ms : List Int} {i : Nat} (h : i < ms.length) : ms.getD i 0 = ms[i] := by
  rw [List.getD_eq_getElem?_getD, List.getElem?_eq_getElem h] <;> rfl
theorem rise_lt {ms : List Int} (hr : ms.Pairwise (· < ·)) {i j : Nat} (hj : j < ms.length) (h : i < j) : ms.getD i 0 < ms.getD j 0 := by
  rw [gd (by omega), gd hj]
  exact List.pairwise_iff_getElem.mp hr i j (by omega) hj h
theorem rise_le {ms : List Int} (hr : ms.Pairwise (· < ·)) {i j : Nat} (hi : i < ms.length) (hj : j < ms.length) : ms.getD i 0 ≤ ms.getD j 0 ↔ i ≤ j := by
  constructor
  · intro h
    refine Classical.byContradiction fun hn => ?_
    have := rise_lt hr hi (show j < i by omega)
    omega
  · intro h
    rcases Nat.lt_or_ge i j with h1 | h1
    · exact Int.le_of_lt (rise_lt hr hj h1)
    · have : i = j := by omega
      rw [this]
      exact Int.le_refl _
theorem rise_inj {ms : List Int} (hr : ms.Pairwise (· < ·)) {i j : Nat} (hi : i < ms.length) (hj : j < ms.length) (e : ms.getD i 0 = ms.getD j 0) : i = j := by
  have h1 := (rise_le hr hi hj).mp (by omega)
  have h2 := (rise_le hr hj hi).mp (by omega)
  omega
theorem mem_at {ms : List Int} {a : Int} : a ∈ ms ↔ ∃ i, i < ms.length ∧ ms.getD i 0 = a := by
  constructor
  · intro h
    obtain ⟨i, hi, rfl⟩ := List.mem_iff_getElem.mp h
    exact ⟨i, hi, gd hi⟩
  · rintro ⟨i, hi, rfl⟩
    rw [gd hi]
    exact List.getElem_mem hi
/-- apart, told by the marks themselves -/
def ApV (ms : List Int) : Prop := ∀ a ∈ ms, ∀ b ∈ ms, ∀ c ∈ ms, ∀ d ∈ ms, a ≤ b → c ≤ d → a + b = c + d → a = c ∧ b = d
theorem apart_val {ms : List Int} (hr : ms.Pairwise (· < ·)) : Apart ms ↔ ApV ms := by
  constructor
  · intro h a ha b hb c hc d hd hab hcd e
    obtain ⟨i, hi, rfl⟩ := mem_at.mp ha
    obtain ⟨j, hj, rfl⟩ := mem_at.mp hb
    obtain ⟨k, hk, rfl⟩ := mem_at.mp hc
    obtain ⟨l, hl, rfl⟩ := mem_at.mp hd
    have h1 := apart_inj h ((rise_le hr hi hj).mp hab) hj ((rise_le hr hk hl).mp hcd) hl e
    exact ⟨by rw [h1.1], by rw [h1.2]⟩
  · intro h
    refine apart_at fun i j hij p q hp hq e => prs_ne hp hq hij ?_
    obtain ⟨a, b⟩ := p
    obtain ⟨c, d⟩ := q
    have h1 := mem_prs.mp (List.mem_of_getElem? hp)
    have h2 := mem_prs.mp (List.mem_of_getElem? hq)
    have m : ∀ k, k < ms.length → ms.getD k 0 ∈ ms := fun k hk => mem_at.mpr ⟨k, hk, rfl⟩
    have h3 := h _ (m a (by omega)) _ (m b h1.2) _ (m c (by omega)) _ (m d h2.2) ((rise_le hr (by omega) h1.2).mpr h1.1) ((rise_le hr (by omega) h2.2).mpr h2.1) e
    rw [rise_inj hr (by omega) (by omega) h3.1, rise_inj hr h1.2 h2.2 h3.2]
theorem apart_sub {ms ks : List Int} (hr : ms.Pairwise (· < ·)) (hk : ks.Pairwise (· < ·)) (hs : ∀ z ∈ ks, z ∈ ms) (h : Apart ms) : Apart ks :=
  (apart_val hk).mpr fun a ha b hb c hc d hd => (apart_val hr).mp h a (hs a ha) b (hs b hb) c (hs c hc) d (hs d hd)
/-- what is barred: one and another, less a third -/
def barL (ns : List Int) : List Int := (progTo (two ns) ns.length ns.length).flatMap fun t => ns.map fun z => t - z
theorem mem_bar {ns : List Int} {x : Int} : x ∈ barL ns ↔ ∃ a ∈ ns, ∃ b ∈ ns, ∃ c ∈ ns, x = a + b - c := by
  unfold barL
  rw [← prs_map]
  simp only [List.mem_flatMap, List.mem_map]
  constructor
  · rintro ⟨t, ⟨⟨i, j⟩, hp, rfl⟩, z, hz, rfl⟩
    have h1 := mem_prs.mp hp
    exact ⟨ns.getD i 0, mem_at.mpr ⟨i, by omega, rfl⟩, ns.getD j 0, mem_at.mpr ⟨j, h1.2, rfl⟩, z, hz, rfl⟩
  · rintro ⟨a, ha, b, hb, c, hc, rfl⟩
    obtain ⟨i, hi, rfl⟩ := mem_at.mp ha
    obtain ⟨j, hj, rfl⟩ := mem_at.mp hb
    rcases Nat.le_total i j with h | h
    · exact ⟨_, ⟨(i, j), mem_prs.mpr ⟨h, hj⟩, rfl⟩, c, hc, rfl⟩
    · refine ⟨_, ⟨(j, i), mem_prs.mpr ⟨h, hi⟩, rfl⟩, c, hc, ?_⟩
      show ns.getD j 0 + ns.getD i 0 - c = _
      omega
def lastOf (ns : List Int) : Int := ns.getD (ns.length - 1) 0
theorem le_last {ns : List Int} (hr : ns.Pairwise (· < ·)) : ∀ z ∈ ns, z ≤ lastOf ns := fun z hz => by
  obtain ⟨i, hi, rfl⟩ := mem_at.mp hz
  exact (rise_le hr hi (by omega)).mpr (by omega)
/-- L is what is put behind -/
def Least (ns : List Int) (L : Int) : Prop := lastOf ns < L ∧ L ∉ barL ns ∧ ∀ x, lastOf ns < x → x < L → x ∈ barL ns
theorem least_unique {ns : List Int} {L M : Int} (h : Least ns L) (g : Least ns M) : L = M := by
  rcases Int.lt_trichotomy L M with h1 | h1 | h1
  · exact absurd (g.2.2 L h.1 h1) h.2.1
  · exact h1
  · exact absurd (h.2.2 M g.1 h1) g.2.1
/-- the walk through what is barred -/
def scan : List Int → Int → Int
  | [], l => l
  | z :: r, l => scan r (if z = l then l + 1 else l)
theorem scan_snoc : ∀ (bs : List Int) (z l : Int), scan (bs ++ [z]) l = if z = scan bs l then scan bs l + 1 else scan bs l
  | [], z, l => rfl
  | y :: r, z, l => scan_snoc r z _
theorem scan_ok {bs : List Int} {a : Int} (hs : bs.Pairwise (· ≤ ·)) : ∀ i, i ≤ bs.length → a < scan (bs.take i) (a + 1) ∧ (∀ y ∈ bs.take i, y ≠ scan (bs.take i) (a + 1)) ∧ ∀ x, a < x → x < scan (bs.take i) (a + 1) → x ∈ bs
  | 0, _ => by
    rw [List.take_zero]
    exact ⟨by show a < a + 1; omega, fun y hy => absurd hy (by simp), fun x h1 h2 => by
      have : x < a + 1 := h2
      omega⟩
  | i + 1, hi => by
    obtain ⟨h1, h2, h3⟩ := scan_ok hs i (by omega)
    have e : bs.take (i + 1) = bs.take i ++ [bs[i]] := by
      rw [List.take_add_one, List.getElem?_eq_getElem (by omega)] <;> rfl
    rw [e, scan_snoc]
    generalize scan (bs.take i) (a + 1) = l at h1 h2 h3
    by_cases hz : bs[i] = l
    · rw [if_pos hz]
      refine ⟨by omega, fun y hy => ?_, fun x hx hx2 => ?_⟩
      · rcases List.mem_append.mp hy with hy | hy
        · obtain ⟨j, hj, rfl⟩ := List.mem_iff_getElem.mp hy
          rw [List.getElem_take]
          rw [List.length_take] at hj
          have := List.pairwise_iff_getElem.mp hs j i (by omega) (by omega) (by omega)
          omega
        · rw [List.mem_singleton.mp hy]
          omega
      · by_cases hxl : x = l
        · rw [hxl, ← hz]
          exact List.getElem_mem (by omega)
        · exact h3 x hx (by omega)
    · rw [if_neg hz]
      refine ⟨h1, fun y hy => ?_, h3⟩
      rcases List.mem_append.mp hy with hy | hy
      · exact h2 y hy
      · rw [List.mem_singleton.mp hy]
        exact hz
theorem scan_least {ns bs : List Int} (hp : bs.Perm (barL ns)) (hs : bs.Pairwise (· ≤ ·)) : Least ns (scan bs (lastOf ns + 1)) := by
  obtain ⟨h1, h2, h3⟩ := scan_ok (a := lastOf ns) hs bs.length (Nat.le_refl _)
  rw [List.take_length] at h1 h2 h3
  exact ⟨h1, fun h => h2 _ (hp.mem_iff.mpr h) rfl, fun x a b => hp.mem_iff.mp (h3 x a b)⟩
theorem rise_put {ns : List Int} {L : Int} (hr : ns.Pairwise (· < ·)) (hl : ∀ z ∈ ns, z < L) : (ns ++ [L]).Pairwise (· < ·) :=
  List.pairwise_append.mpr ⟨hr, List.pairwise_singleton _ _, fun a ha b hb => by rw [List.mem_singleton.mp hb]; exact hl a ha⟩
theorem apart_put {ns : List Int} {L : Int} (hr : ns.Pairwise (· < ·)) (ha : Apart ns) (hl : ∀ z ∈ ns, z < L) (hb : L ∉ barL ns) : Apart (ns ++ [L]) := by
  refine (apart_val (rise_put hr hl)).mpr fun a ma b mb c mc d md hab hcd e => ?_
  have hv := (apart_val hr).mp ha
  have no : ∀ x ∈ ns, ∀ y ∈ ns, ∀ z ∈ ns, L ≠ x + y - z := fun x hx y hy z hz e => hb (mem_bar.mpr ⟨x, hx, y, hy, z, hz, e⟩)
  have cs : ∀ x, x ∈ ns ++ [L] → (x ∈ ns ∧ x < L) ∨ x = L := fun x hx => by
    rcases List.mem_append.mp hx with h | h
    · exact .inl ⟨h, hl x h⟩
    · exact .inr (List.mem_singleton.mp h)
  rcases cs a ma with ⟨a1, a2⟩ | a1 <;> rcases cs b mb with ⟨b1, b2⟩ | b1 <;> rcases cs c mc with ⟨c1, c2⟩ | c1 <;> rcases cs d md with ⟨d1, d2⟩ | d1
  · exact hv a a1 b b1 c c1 d d1 hab hcd e
  · exact absurd (show L = a + b - c by omega) (no a a1 b b1 c c1)
  · omega
  · omega
  · exact absurd (show L = c + d - a by omega) (no c c1 d d1 a a1)
  all_goals omega
/-- without marks: the first ones put behind -/
def firstKs : List Int := [0, 1, 3, 7, 12, 20, 30, 44]
theorem first_ok : ∀ i : Fin 7, (decide (lastOf (firstKs.take (i.val + 1)) < firstKs.getD (i.val + 1) 0) && (!(barL (firstKs.take (i.val + 1))).contains (firstKs.getD (i.val + 1) 0)) &&
    ((List.range 16).all fun j => decide (firstKs.getD (i.val + 1) 0 ≤ lastOf (firstKs.take (i.val + 1)) + 1 + (j : Nat)) || (barL (firstKs.take (i.val + 1))).contains (lastOf (firstKs.take (i.val + 1)) + 1 + (j : Nat)))) = true := by decide +kernel
theorem first_gap : ∀ i : Fin 7, firstKs.getD (i.val + 1) 0 ≤ lastOf (firstKs.take (i.val + 1)) + 16 := by decide +kernel
theorem first_least {i : Nat} (h0 : 1 ≤ i) (h : i < 8) : Least (firstKs.take i) (firstKs.getD i 0) := by
  obtain ⟨k, rfl⟩ : ∃ k, i = k + 1 := ⟨i - 1, by omega⟩
  have h1 := first_ok ⟨k, by omega⟩
  have h2 := first_gap ⟨k, by omega⟩
  simp only [Bool.and_eq_true, Bool.not_eq_true', decide_eq_true_eq, List.all_eq_true, List.mem_range, Bool.or_eq_true] at h1 h2
  obtain ⟨⟨a1, a2⟩, a3⟩ := h1
  refine ⟨a1, fun h => ?_, fun x hx hx2 => ?_⟩
  · rw [List.contains_iff_mem.mpr h] at a2
    exact Bool.noConfusion a2
  · obtain ⟨j, hj⟩ : ∃ j : Nat, x - (lastOf (firstKs.take (k + 1)) + 1) = (j : Int) := Int.eq_ofNat_of_zero_le (by omega)
    rcases a3 j (by omega) with h | h
    · omega
    · rw [List.contains_iff_mem] at h
      have e : lastOf (firstKs.take (k + 1)) + 1 + (j : Int) = x := by omega
      rw [e] at h
      exact h
theorem first_apart : ∀ i : Fin 9, Apart (firstKs.take i.val) := by decide +kernel
theorem first_rises : ∀ i : Fin 9, (firstKs.take i.val).Pairwise (· < ·) := by decide +kernel
end SM

namespace K7
open PySem PySem.Spec PyProof.Rows L2 Evl SX SM
def topS (i : Nat) : Stmt := PySem.Challenge.pw_sumsapart_k07_whole_numbers.main.body.getD i (.Pass ⟨0, 0, 0, 0⟩)
local macro_rules | `(tactic| walk_at "cond") => `(tactic| first
  | assumption
  | exact cdiv_small (by decide) (by decide)
  | exact cmul_l (by decide) (by decide)
  | exact cmul_r (by decide) (by decide)
  | exact cpow_c (by decide) (by decide) (by decide)
  | (show (0 : Int) < _; decide)
  | (show (0 : Int) < _; omega))
local macro_rules | `(tactic| walk_at "ev") => `(tactic| first
  | with_reducible exact ev_c
  | ((with_reducible apply ev_var); exact rfl)
  | with_reducible exact ea_nil
  | with_reducible exact eo_none
  | ((with_reducible apply ea_cons) <;> walk_at "ev")
  | ((with_reducible apply eo_some); walk_at "ev")
  | ((with_reducible apply ev_op (hr := rv_I0)) <;> walk_at "ev")
  | ((with_reducible apply ev_op (hr := rv_I ?cnd)); (· walk_at "ev"); (· walk_at "ev"); (· walk_at "cond"))
  | ((with_reducible apply ev_un (hr := ru_neg)); walk_at "ev")
  | ((with_reducible apply ev_op (hr := rv_eq ?cnd)); (· walk_at "ev"); (· walk_at "ev"); (· exact rfl))
  | ((with_reducible apply ev_op (hr := rv_ne ?cnd)); (· walk_at "ev"); (· walk_at "ev"); (· exact rfl))
  | ((with_reducible apply ev_lenI); (· walk_at "ev"); (· assumption))
  | ((with_reducible apply ev_ixL); (· walk_at "ev"); (· walk_at "ev"); (· assumption); (· first | exact atI_nat (j := 0) rfl | exact atI_nat (j := 1) rfl | exact atI_nat (j := 2) rfl))
  | ((with_reducible apply et_test); walk_at "ev")
  | ((with_reducible apply et_B); walk_at "ev"))
local macro_rules | `(tactic| walk_at "tup") => `(tactic| first
  | ((with_reducible apply evp_T [_, _]); (· walk_at "ev"); (· exact rfl); (· show 2 ≤ 100000; decide))
  | ((with_reducible apply evp_T [_]); (· walk_at "ev"); (· exact rfl); (· show 1 ≤ 100000; decide))
  | ((with_reducible apply evp_T [_, _, _]); (· walk_at "ev"); (· exact rfl); (· show 3 ≤ 100000; decide))
  | ((with_reducible apply evp_T []); (· walk_at "ev"); (· exact rfl); (· show 0 ≤ 100000; decide)))
local macro_rules | `(tactic| walk_at "pairs") => `(tactic| first
  | with_reducible exact eal_nil
  | ((with_reducible apply eal_cons PairT.mono); (· ((with_reducible apply evp_pair) <;> walk_at "tup")); (· walk_at "pairs")))
/-! ### what stands in the module -/
structure Tx (mg : Str → Option Value) : Prop where
  b_len : mg "len" = none
  b_set : mg "set" = none
  b_isinstance : mg "isinstance" = none
  b_bool : mg "bool" = none
  b_int : mg "int" = none
  b_tuple : mg "tuple" = none
  b_enumerate : mg "enumerate" = none
  b_sum : mg "sum" = none
  b_sorted : mg "sorted" = none
  b_range : mg "range" = none
  b_list : mg "list" = none
  b_str : mg "str" = none
  b_abs : mg "abs" = none
  b_all : mg "all" = none
  b_any : mg "any" = none
  b_zip : mg "zip" = none
  b_max : mg "max" = none
  b_min : mg "min" = none
  b_reversed : mg "reversed" = none
abbrev s_is_number : Stmt := topS 3
abbrev N_is_number : List Str := ["found"]
theorem sc_is_number : FnScope N_is_number ["found"] (defScope s_is_number) := ⟨rfl, rfl, rfl, by decide +kernel, rfl, by decide +kernel, by decide +kernel⟩
abbrev s_is_count : Stmt := topS 4
abbrev N_is_count : List Str := ["found", "many"]
theorem sc_is_count : FnScope N_is_count ["found", "many"] (defScope s_is_count) := ⟨rfl, rfl, rfl, by decide +kernel, rfl, by decide +kernel, by decide +kernel⟩
abbrev s_is_pair : Stmt := topS 27
abbrev N_is_pair : List Str := ["found", "many", "first", "second"]
theorem sc_is_pair : FnScope N_is_pair ["found", "many"] (defScope s_is_pair) := ⟨rfl, rfl, rfl, by decide +kernel, rfl, by decide +kernel, by decide +kernel⟩
abbrev s_pair_sum : Stmt := topS 28
abbrev N_pair_sum : List Str := ["marks", "pair", "first", "second"]
theorem sc_pair_sum : FnScope N_pair_sum ["marks", "pair"] (defScope s_pair_sum) := ⟨rfl, rfl, rfl, by decide +kernel, rfl, by decide +kernel, by decide +kernel⟩
abbrev s_all_sums : Stmt := topS 29
abbrev N_all_sums : List Str := ["marks", "at", "first", "second"]
theorem sc_all_sums : FnScope N_all_sums ["marks"] (defScope s_all_sums) := ⟨rfl, rfl, rfl, by decide +kernel, rfl, by decide +kernel, by decide +kernel⟩
abbrev s_Apart_shows : Stmt := inClass (topS 31) 0
abbrev N_Apart_shows : List Str := ["self", "marks", "sums"]
theorem sc_Apart_shows : FnScope N_Apart_shows ["self", "marks"] (defScope s_Apart_shows) := ⟨rfl, rfl, rfl, by decide +kernel, rfl, by decide +kernel, by decide +kernel⟩
abbrev s_Same___init__ : Stmt := inClass (topS 32) 0
abbrev N_Same___init__ : List Str := ["self", "one", "other"]
theorem sc_Same___init__ : FnScope N_Same___init__ ["self", "one", "other"] (defScope s_Same___init__) := ⟨rfl, rfl, rfl, by decide +kernel, rfl, by decide +kernel, by decide +kernel⟩
abbrev s_Same_shows : Stmt := inClass (topS 32) 1
abbrev N_Same_shows : List Str := ["self", "marks", "many"]
theorem sc_Same_shows : FnScope N_Same_shows ["self", "marks"] (defScope s_Same_shows) := ⟨rfl, rfl, rfl, by decide +kernel, rfl, by decide +kernel, by decide +kernel⟩
section
variable {K : PySem.W.Frag} {σ : L2.St} {H H' : Hp} {te : TE} {x y : V} {D : Ends} {tz : TS} {i j : Nat}
theorem q_two {p : Addr} (h : Ev te σ H (.ref p)) (hp : SqT K H p [x, y]) (k : ∀ H1, Ex H H1 → tz D ((σ.set i (some x)).set j (some y)) H1) : tSeq (tAsg te (gTup K 2 (gCons (gName i) (gCons (gName j) gNil)))) tz D σ H :=
  h H (Ex.refl H) _ fun H1 e1 => g_two (ex_t e1 hp) (k H1 e1)
end
section
variable {P : Program} {w : World} {K : PySem.W.Frag} {mg : Str → Option Value} {base : Heap}
/-! ### the program -/
/-- what is a whole number, and what isn't -/
def NumV (v : V) (H : Hp) (b : Bool) : Prop := (∃ i, v = .int i ∧ b = true) ∨ (b = false ∧ (v = .non ∨ (∃ s, v = .str s) ∨ (∃ c, v = .bl c) ∨ (∃ p xs, v = .ref p ∧ H p = some (.lst xs)) ∨ (∃ p xs, v = .ref p ∧ H p = some (.tup xs)) ∨ (∃ p kvs, v = .ref p ∧ H p = some (.dK kvs))))
theorem NumV.mono {v : V} {H H' : Hp} {b : Bool} (e : Ex H H') (h : NumV v H b) : NumV v H' b := by
  rcases h with h | ⟨hb, h | h | h | ⟨p, xs, h, q⟩ | ⟨p, xs, h, q⟩ | ⟨p, xs, h, q⟩⟩
  · exact .inl h
  · exact .inr ⟨hb, .inl h⟩
  · exact .inr ⟨hb, .inr (.inl h)⟩
  · exact .inr ⟨hb, .inr (.inr (.inl h))⟩
  · exact .inr ⟨hb, .inr (.inr (.inr (.inl ⟨p, xs, h, e p _ q⟩)))⟩
  · exact .inr ⟨hb, .inr (.inr (.inr (.inr (.inl ⟨p, xs, h, e p _ q⟩))))⟩
  · exact .inr ⟨hb, .inr (.inr (.inr (.inr (.inr ⟨p, xs, h, e p _ q⟩))))⟩
theorem rc_isiAs {K : PySem.W.Frag} {H : Hp} {x : V} {t n : String} {b : Bool} (ht : ∀ H1, Ex H H1 → TyX K H1 x (.type t)) (hk : kitB t n = some b) : RC (rIsi K) [x, .ty n] H (.bl b) := rc_isi (.ty n) ht (kit_ty hk)
theorem isi_num {K : PySem.W.Frag} {σ : L2.St} {H : Hp} {te : TE} {v : V} {b : Bool} (hv : NumV v H b) (h : ∀ H1, Ex H H1 → Ev te σ H1 v) :
    Ev (tAndV (tCB (rIsi K) (tCons te (tCons (tC (.ty "int")) tNil))) (tNotV (tCB (rIsi K) (tCons te (tCons (tC (.ty "bool")) tNil))))) σ H (.bl b) := by
  have h0 := h H (Ex.refl H)
  have ha : EvA (tCons te (tCons (tC (.ty "int")) tNil)) σ H [v, .ty "int"] := ea_cons h0 (ea_cons ev_c ea_nil)
  have hb : EvA (tCons te (tCons (tC (.ty "bool")) tNil)) σ H [v, .ty "bool"] := ea_cons h0 (ea_cons ev_c ea_nil)
  rcases hv with ⟨i, rfl, rfl⟩ | ⟨rfl, rfl | ⟨s, rfl⟩ | ⟨c, rfl⟩ | ⟨p, xs, rfl, q⟩ | ⟨p, xs, rfl, q⟩ | ⟨p, xs, rfl, q⟩⟩
  · exact ev_andV (a := true) (b := true) (ev_cb ha (rc_isiInt (by decide +kernel))) fun _ => ev_notV (a := false) (ev_cb hb (rc_isiInt (by decide +kernel)))
  · exact ev_andV (a := false) (b := false) (ev_cb ha (rc_isiAs (t := "NoneType") (fun H1 e => .base .non) (by decide +kernel))) fun h => nomatch h
  · exact ev_andV (a := false) (b := false) (ev_cb ha (rc_isiAs (t := "str") (fun H1 e => .base (.str s)) (by decide +kernel))) fun h => nomatch h
  · exact ev_andV (a := true) (b := false) (ev_cb ha (rc_isiBl (by decide +kernel))) fun _ => ev_notV (a := true) (ev_cb hb (rc_isiBl (by decide +kernel)))
  · exact ev_andV (a := false) (b := false) (ev_cb ha (rc_isiAs (t := "list") (fun H1 e => .base (.lst (e p _ q))) (by decide +kernel))) fun h => nomatch h
  · exact ev_andV (a := false) (b := false) (ev_cb ha (rc_isiAs (t := "tuple") (fun H1 e => .base (.tup (e p _ q))) (by decide +kernel))) fun h => nomatch h
  · exact ev_andV (a := false) (b := false) (ev_cb ha (rc_isiAs (t := "dict") (fun H1 e => .base (.dK (e p _ q))) (by decide +kernel))) fun h => nomatch h
def spNumber : Sp := fun vs H Q _ => ∃ v b, vs = [v] ∧ NumV v H b ∧ RetV (.bl b) H Q
theorem ok_number {f : Addr} {fd : FuncData} (D : Dfn K mg "is_number" "is_number" s_is_number ["found"] f fd) (T : Tx mg) : FnOk P w K mg base CX0 1 f fd ["found"] spNumber := by
  refine D.F.ok sc_is_number (fun vs H Q E h => ?_) (fun cdv A outer s H vs Q E hr h => ?_)
  · obtain ⟨v, b, rfl, _⟩ := h
    rfl
  · obtain ⟨v, b, rfl, hv, k⟩ := h
    refine ⟨_, (pss_one (ps_ret (pe_and (pe_callB call_isi (by rfl) T.b_isinstance (by decide +kernel) (pa_cons (pv 0) (pa_cons (pe_bltn (v := .ty "int") (by rfl) T.b_int (by decide +kernel) rfl) pa_nil))) (pe_one (pe_not (pe_callB call_isi (by rfl) T.b_isinstance (by decide +kernel) (pa_cons (pv 0) (pa_cons (pe_bltn (v := .ty "bool") (by rfl) T.b_bool (by decide +kernel) rfl) pa_nil)))))))), ?_⟩
    exact s_ret (isi_num hv fun _ _ => ev_var rfl) fun H2 e2 => k H2 e2
def spCount : Sp := fun vs H Q _ => ∃ (v : V) (b : Bool) (n : Int), vs = [v, .int n] ∧ NumV v H b ∧ (∀ i : Int, v = .int i → RetV (.bl (decide (0 ≤ i) && decide (i < n))) H Q) ∧ (b = false → RetV (.bl false) H Q)
theorem spCount.int {i n : Int} {H : Hp} {Q : VK} {E : XK} (k : RetV (.bl (decide (0 ≤ i) && decide (i < n))) H Q) : spCount [.int i, .int n] H Q E := ⟨_, true, n, rfl, .inl ⟨i, rfl, rfl⟩, fun j e => by injection e with e; rw [← e]; exact k, fun h => nomatch h⟩
theorem ok_count {f f1 : Addr} {fd fd1 : FuncData} (D : Dfn K mg "is_count" "is_count" s_is_count ["found", "many"] f fd) (T : Tx mg) (D_is_number : Dfn K mg "is_number" "is_number" s_is_number ["found"] f1 fd1) : FnOk P w K mg base CX0 2 f fd ["found", "many"] spCount := by
  have G_is_number : FnOk P w K mg base CX0 1 f1 fd1 ["found"] spNumber := ok_number D_is_number T
  refine D.F.ok sc_is_count (fun vs H Q E h => ?_) (fun cdv A outer s H vs Q E hr h => ?_)
  · obtain ⟨v, b, n, rfl, _⟩ := h
    rfl
  · obtain ⟨v, b, n, rfl, hv, k, k2⟩ := h
    refine ⟨_, (pss_one (ps_ret (pe_and (pe_call G_is_number (hr.mono (by decide)) (by rfl) D_is_number.g D_is_number.F.kp D_is_number.b .nil pass0 (pa_cons (pv 0) pa_nil)) (pe_one (pe_chain op_le op_lt pe_int (pv 0) (pv 1)))))), ?_⟩
    have hc : Ev _ _ H (.bl b) := ev_call (ea_cons (ev_var (i := 0) (σ := start N_is_count [v, .int n]) rfl) ea_nil) (sp := spNumber) (dvs := []) (E := E0) fun H1 e Q q E => ⟨v, b, rfl, hv.mono e, q⟩
    cases b with
    | false => exact s_ret (ev_andV (b := false) hc fun h => nomatch h) fun H2 e2 => k2 rfl H2 e2
    | true =>
      rcases hv with ⟨i, rfl, _⟩ | ⟨h, _⟩
      · exact s_ret (ev_andV hc fun _ => ev_chain ev_c (ev_var rfl) fun _ => ev_var rfl) fun H2 e2 => k i rfl H2 e2
      · exact nomatch h
def spPair : Sp := fun vs H Q _ => ∃ (t : Addr) (ns : List Int) (n : Int), vs = [.ref t, .int n] ∧ H t = some (.tup (ns.map V.int)) ∧ RetV (.bl (isPair ns n)) H Q
theorem isPair_len {ns : List Int} {n : Int} (h : ns.length ≠ 2) : isPair ns n = false := by
  unfold isPair
  split
  · exact absurd rfl h
  · rfl
theorem ok_pair {f f1 f2 : Addr} {fd fd1 fd2 : FuncData} (D : Dfn K mg "is_pair" "is_pair" s_is_pair ["found", "many"] f fd) (T : Tx mg) (D_is_count : Dfn K mg "is_count" "is_count" s_is_count ["found", "many"] f1 fd1) (D_is_number : Dfn K mg "is_number" "is_number" s_is_number ["found"] f2 fd2) : FnOk P w K mg base CX0 3 f fd ["found", "many"] spPair := by
  have G_is_count : FnOk P w K mg base CX0 2 f1 fd1 ["found", "many"] spCount := ok_count D_is_count T D_is_number
  refine D.F.ok sc_is_pair (fun vs H Q E h => ?_) (fun cdv A outer s H vs Q E hr h => ?_)
  · obtain ⟨t, ns, n, rfl, _⟩ := h
    rfl
  · obtain ⟨t, ns, n, rfl, ht, k⟩ := h
    refine ⟨_, (pss_cons (ps_if (PW.pt (pw_or (pt_not (pt_val (pe_callB call_isi (by rfl) T.b_isinstance (by decide +kernel) (pa_cons (pv 0) (pa_cons (pe_bltn (v := .ty "tuple") (by rfl) T.b_tuple (by decide +kernel) rfl) pa_nil))))) (pw_or1 (pt_cmpR op_ne (pe_callB call_len_seq (by rfl) T.b_len (by decide +kernel) (pa_cons (pv 0) pa_nil)) pe_int (nomark _)))))
      (pss_one (ps_ret pe_bl))
      pss_nil)
      (pss_cons (ps_asg (pv 0) (pg_tup rfl (pgs_cons (pg_name (i := 2) sc_is_pair.nd rfl (by first | exact Or.inl rfl | exact Or.inr rfl)) (pgs_cons (pg_name (i := 3) sc_is_pair.nd rfl (by first | exact Or.inl rfl | exact Or.inr rfl)) pgs_nil))))
      (pss_one (ps_ret (pe_and (pe_call G_is_count (hr.mono (by decide)) (by rfl) D_is_count.g D_is_count.F.kp D_is_count.b .nil pass0 (pa_cons (pv 2) (pa_cons (pv 1) pa_nil))) (pe_and (pe_call G_is_count (hr.mono (by decide)) (by rfl) D_is_count.g D_is_count.F.kp D_is_count.b .nil pass0 (pa_cons (pv 3) (pa_cons (pv 1) pa_nil))) (pe_one (pe_cmpR op_le (pv 2) (pv 3) (nomark _))))))))), ?_⟩
    refine q_when (et_or (et_not (a := true) (et_B (ev_cb (by walk_at "ev") (rc_isiTup ht (by decide +kernel))))) fun _ => et_test (ev_op (ev_lenTI (ev_var rfl) (st_of ht)) ev_c (rv_ne rfl))) (fun hb H1 e1 => ?_) fun hb H1 e1 => ?_
    · refine s_ret ev_c fun H2 e2 => ?_
      have hl : ns.length ≠ 2 := fun e => by
        rw [e] at hb
        exact absurd hb (by decide)
      have q := k H2 (e1.trans e2)
      rw [isPair_len hl] at q
      exact q
    · have hl : ns.length = 2 := by
        have h2 : decide (V.int (ns.length : Int) = V.int 2) = true := by
          cases h3 : decide (V.int (ns.length : Int) = V.int 2) with
          | true => rfl
          | false => rw [h3] at hb; exact absurd hb (by decide)
        have h4 := of_decide_eq_true h2
        injection h4 with h4
        omega
      obtain ⟨a, b, rfl⟩ : ∃ a b, ns = [a, b] := by
        match ns, hl with
        | [a, b], _ => exact ⟨a, b, rfl⟩
      refine q_two (ev_var rfl) (st_of (e1 t _ ht)) fun H2 e2 => ?_
      refine s_ret (ev_andV (ev_call (by walk_at "ev") fun H1 e Q q E => spCount.int q) fun _ => ev_andV (ev_call (by walk_at "ev") fun H1 e Q q E => spCount.int q) fun _ => by walk_at "ev") fun H3 e3 => ?_
      exact k H3 ((e1.trans e2).trans e3)
def spSum (K : PySem.W.Frag) : Sp := fun vs H Q _ => ∃ (m t : Addr) (ms : List Int) (a b : Int), vs = [.ref m, .ref t] ∧ SqL K H m (ms.map V.int) ∧ H t = some (.tup ([a, b].map V.int)) ∧ (0 ≤ a ∧ a < ms.length ∧ 0 ≤ b ∧ b < ms.length) ∧ RetV (.int (sumAt ms [a, b])) H Q
theorem ok_sum {f : Addr} {fd : FuncData} (D : Dfn K mg "pair_sum" "pair_sum" s_pair_sum ["marks", "pair"] f fd) : FnOk P w K mg base CX0 1 f fd ["marks", "pair"] (spSum K) := by
  refine D.F.ok sc_pair_sum (fun vs H Q E h => ?_) (fun cdv A outer s H vs Q E hr h => ?_)
  · obtain ⟨m, t, ms, a, b, rfl, _⟩ := h
    rfl
  · obtain ⟨m, t, ms, a, b, rfl, hm, ht, ⟨a0, a1, b0, b1⟩, k⟩ := h
    refine ⟨_, (pss_cons (ps_asg (pv 1) (pg_tup rfl (pgs_cons (pg_name (i := 2) sc_pair_sum.nd rfl (by first | exact Or.inl rfl | exact Or.inr rfl)) (pgs_cons (pg_name (i := 3) sc_pair_sum.nd rfl (by first | exact Or.inl rfl | exact Or.inr rfl)) pgs_nil))))
      (pss_one (ps_ret (pe_op op_add (pe_ix ix_list (pv 0) (pv 2) (fun _ _ => rfl)) (pe_ix ix_list (pv 0) (pv 3) (fun _ _ => rfl)))))), ?_⟩
    refine q_two (ev_var rfl) (st_of ht) fun H1 e1 => ?_
    have hm1 := ex_l e1 hm
    exact s_ret (ev_op (ev_ixL (ev_var rfl) (ev_var rfl) hm1 (at_ints a0 a1)) (ev_ixL (ev_var rfl) (ev_var rfl) hm1 (at_ints b0 b1)) rv_I0) fun H2 e2 => k H2 (e1.trans e2)
/-! the sums of all pairs -/
theorem getD_at {ms : List Int} {k : Nat} (h : k < ms.length) : ms.getD k 0 = ms[k] := by
  rw [List.getD_eq_getElem?_getD, List.getElem?_eq_getElem h] <;> rfl
theorem at_getD {ms : List Int} {k : Nat} (h : k < ms.length) : (ms.map V.int)[k]? = some (.int (ms.getD k 0)) := by
  rw [List.getElem?_map, List.getElem?_eq_getElem h, getD_at h] <;> rfl
def spAll (K : PySem.W.Frag) : Sp := fun vs H Q _ => ∃ (m : Addr) (ms : List Int), vs = [.ref m] ∧ SqL K H m (ms.map V.int) ∧ ms.length ≤ 50 ∧ RetL ((progTo (two ms) ms.length ms.length).map V.int) H Q
theorem ok_all {f : Addr} {fd : FuncData} (D : Dfn K mg "all_sums" "all_sums" s_all_sums ["marks"] f fd) (T : Tx mg) : FnOk P w K mg base CX0 1 f fd ["marks"] (spAll K) := by
  refine D.F.ok sc_all_sums (fun vs H Q E h => ?_) (fun cdv A outer s H vs Q E hr h => ?_)
  · obtain ⟨m, ms, rfl, _⟩ := h
    rfl
  · obtain ⟨m, ms, rfl, hm, hz, k⟩ := h
    refine ⟨_, (pss_one (ps_ret (pe_lc2 (own := [("at", 1), ("first", 2), ("second", 3)]) (vs1 := [3]) rfl sc_all_sums.nd (pi_enum (by rfl) T.b_enumerate (pa_cons (pv 0) pa_nil)) (blkOk_by (N := N_all_sums) (sc := defScope s_all_sums) (by decide +kernel)) (by decide) (fun _ _ _ _ _ => (SX.pg_tupK (K := K) (n := 2) rfl (pgs_cons (pg_name (i := 1) sc_all_sums.nd rfl (by first | exact Or.inl rfl | exact Or.inr rfl)) (pgs_cons (pg_name (i := 2) sc_all_sums.nd rfl (by first | exact Or.inl rfl | exact Or.inr rfl)) pgs_nil)))) (fun _ _ _ _ _ => pts_nil) (fun _ _ _ _ _ => (SX.pi_listK (K := K) (pe_slice (SX.sl_listK (K := K)) (pv 0) (po_some (pv 1)) po_none))) (fun _ _ _ _ _ => (pg_name (i := 3) sc_all_sums.nd rfl (by first | exact Or.inl rfl | exact Or.inr rfl))) (fun _ _ _ _ _ => pts_nil) (fun _ _ _ _ _ => (pe_op op_add (pv 2) (pv 3)))))), ?_⟩
    refine ⟨.ref m, rfl, m, ms.map V.int, rfl, hm, fun L hL => ?_⟩
    have hm0 : ∀ H', Ex H H' → SqL K H' m (ms.map V.int) := fun H' e => ex_l e hm
    refine ⟨fun i c H' => c = ms.length - i ∧ i ≤ ms.length ∧ Ex H H' ∧ H' L = some (.lst ((progTo (two ms) ms.length i).map V.int)), ⟨_, rfl, Nat.zero_le _, Ex.new hL, upd_same⟩, ?_⟩
    rintro i c H1 ⟨rfl, hi, e1, h1⟩
    by_cases hlt : i < ms.length
    · refine .inr ⟨⟨_, .int (ms.getD i 0), hm0 _ e1, at_getD hlt⟩, fun H' => Ex H H' ∧ H' L = some (.lst ((progTo (two ms) ms.length (i + 1)).map V.int)), fun H' h' => ⟨_, by omega, rfl, hlt, h'.1, h'.2⟩, ?_⟩
      rintro x H2 ⟨T0, z, rfl, hT, rfl, hz0⟩
      obtain rfl : z = .int (ms.getD i 0) := Option.some.inj ((hz0 _ (hm0 _ e1)).symm.trans (at_getD hlt))
      have e2 : Ex H1 (upd H1 T0 (.tup [.int (i : Nat), .int (ms.getD i 0)])) := Ex.new hT
      have hTu : SqT K (upd H1 T0 (.tup [.int (i : Nat), .int (ms.getD i 0)])) T0 [.int (i : Nat), .int (ms.getD i 0)] := st_of upd_same
      generalize upd H1 T0 (.tup [.int (i : Nat), .int (ms.getD i 0)]) = H2 at e2 hTu ⊢
      have eH := e1.trans e2
      have h2 := e2 L _ h1
      refine g_two hTu ⟨rfl, tyes_if ?_⟩
      refine el_cutDrop (ev_var rfl) (eo_some (ev_var rfl)) (hm0 _ eH) H2 (Ex.refl H2) _ fun p H3 hp e3 h3 => ⟨p, rfl, ⟨_, sq_of h3⟩, ?_⟩
      have npL : L ≠ p := ne_of_none h2 hp
      refine ⟨fun j c H' => c = ms.length - i - j ∧ j ≤ ms.length - i ∧ Ex H H' ∧ H' p = some (.lst ((ms.drop i).map V.int)) ∧ H' L = some (.lst ((progTo (two ms) ms.length i ++ (List.range' i j).map (two ms i)).map V.int)),
        ⟨_, rfl, Nat.zero_le _, eH.trans e3, h3, by rw [e3 L _ h2]; simp⟩, ?_⟩
      rintro j c H4 ⟨rfl, hj, e4, h4p, h4⟩
      have hlen : ((ms.drop i).map V.int).length = ms.length - i := by simp
      by_cases hjl : j < ms.length - i
      · have hz1 : ((ms.drop i).map V.int)[j]? = some (.int (ms.getD (i + j) 0)) := by
          rw [List.map_drop, List.getElem?_drop]
          exact at_getD (by omega)
        refine .inr ⟨⟨_, _, sq_of h4p, hz1⟩, fun H' => Ex H H' ∧ H' p = some (.lst ((ms.drop i).map V.int)) ∧ H' L = some (.lst ((progTo (two ms) ms.length i ++ (List.range' i (j + 1)).map (two ms i)).map V.int)), fun H' h' => ⟨_, by omega, rfl, hjl, h'.1, h'.2.1, h'.2.2⟩, ?_⟩
        rintro y H5 ⟨rfl, hy⟩
        obtain rfl : y = .int (ms.getD (i + j) 0) := Option.some.inj ((hy _ (sq_of h4p)).symm.trans hz1)
        refine ⟨rfl, tyes_if ?_⟩
        have hsz := prog_le (two ms) hi hz
        refine ⟨_, rfl, _, rfl, _, _, rfl, rfl, _, h4, ?_, Ex.mut e4 hL, by rw [upd_ne npL.symm]; exact h4p, ?_⟩
        · rw [List.length_map, List.length_append, List.length_map, List.length_range']
          exact sz_lt (by omega)
        · have e5 : i + 1 * j = i + j := by omega
          have e6 : (List.range' i (j + 1)).map (two ms i) = (List.range' i j).map (two ms i) ++ [ms.getD i 0 + ms.getD (i + j) 0] := by
            rw [List.range'_concat, List.map_append, e5] <;> rfl
          rw [upd_same, e6, ← List.append_assoc]
          simp only [List.map_append, List.map_cons, List.map_nil]
      · refine .inl ⟨⟨_, sq_of h4p, by rw [hlen]; omega⟩, e4, ?_⟩
        have e5 : j = ms.length - i := by omega
        rw [h4, prog_next, e5]
    · have e : i = ms.length := by omega
      subst e
      exact .inl ⟨⟨_, hm0 _ e1, by rw [List.length_map] <;> exact Nat.le_refl _⟩, k L H1 hL e1 h1⟩
def spApart (K : PySem.W.Frag) : Sp := fun vs H Q _ => ∃ (s : V) (m : Addr) (ms : List Int), vs = [s, .ref m] ∧ SqL K H m (ms.map V.int) ∧ ms.length ≤ 50 ∧ RetV (.bl (decide (SM.Apart ms))) H Q
theorem ok_apart {f f1 : Addr} {fd fd1 : FuncData} (D : Fun K "shows" "Apart.shows" s_Apart_shows f fd) (T : Tx mg) (D_all_sums : Dfn K mg "all_sums" "all_sums" s_all_sums ["marks"] f1 fd1) : FnOk P w K mg base CX0 2 f fd ["self", "marks"] (spApart K) := by
  have G_all_sums : FnOk P w K mg base CX0 1 f1 fd1 ["marks"] (spAll K) := ok_all D_all_sums T
  refine D.ok sc_Apart_shows (fun vs H Q E h => ?_) (fun cdv A outer s H vs Q E hr h => ?_)
  · obtain ⟨s, m, ms, rfl, _⟩ := h
    rfl
  · obtain ⟨s0, m, ms, rfl, hm, hz, k⟩ := h
    refine ⟨_, (pss_cons (ps_set (i := 2) sc_Apart_shows.nd rfl (by first | exact Or.inl rfl | exact Or.inr rfl) (pe_call G_all_sums (hr.mono (by decide)) (by rfl) D_all_sums.g D_all_sums.F.kp D_all_sums.b .nil pass0 (pa_cons (pv 1) pa_nil)))
      (pss_one (ps_ret (pe_cmpR op_eq (SX.pe_lenSet (by rfl) T.b_len (by rfl) T.b_set (pv 2)) (pe_callB call_len_seq (by rfl) T.b_len (by decide +kernel) (pa_cons (pv 2) pa_nil)) (nomark _))))), ?_⟩
    refine q_asgL (el_call (by walk_at "ev") fun H1 e1 Q q E => ⟨m, ms, rfl, ex_l e1 hm, hz, q⟩) fun p H1 hp e1 h1 => ?_
    refine s_ret (ev_op (ev_lenSet (ev_var rfl) (sq_of h1) (by have := prog_le (two ms) (Nat.le_refl _) hz; omega)) (ev_lenI (ev_var rfl) (sq_of h1)) (rv_eq rfl)) fun H2 e2 => ?_
    rw [nDis_dec, decide_eq_decide.mpr (nodup_iff (two ms) ms.length)]
    exact k H2 (e1.trans e2)
/-! Same(one, other) -/
theorem ko : ¬ (("one" : Str) = "other") := by decide +kernel
def flds (x y : V) : List (Str × V) := putF "other" y (putF "one" x [])
theorem flds_eq (x y : V) : flds x y = ([("one", x), ("other", y)] : List (Str × V)) := by
  show (if ("one" : Str) = "other" then [(("one" : Str), y)] else (("one" : Str), x) :: putF "other" y []) = ([("one", x), ("other", y)] : List (Str × V))
  rw [if_neg ko]
  all_goals rfl
theorem flds_one (x y : V) : (flds x y).lookup ("one" : Str) = some x := by
  unfold flds
  rw [lookup_putF, if_neg ko, lookup_putF, if_pos rfl]
theorem flds_other (x y : V) : (flds x y).lookup ("other" : Str) = some y := by
  unfold flds
  rw [lookup_putF, if_pos rfl]
theorem flds_no (x y : V) {m : Str} (h1 : ¬ m = "one") (h2 : ¬ m = "other") : (flds x y).lookup m = none := by
  unfold flds
  rw [lookup_putF, if_neg h2, lookup_putF, if_neg h1]
  all_goals rfl
structure TSame (K : PySem.W.Frag) (C : Addr) : Prop where
  cl : Cls K C
  n1 : NoAttr K C "one"
  n2 : NoAttr K C "other"
def spInit (C : Addr) : Sp := fun vs H Q _ => ∃ (p dx : Addr) (x y : V), vs = [.ref p, x, y] ∧ H p = some (.ins C dx []) ∧ ∀ H' : Hp, H' p = some (.ins C dx (flds x y)) → (∀ b o, H b = some o → b ≠ p → H' b = some o) → Q .non H'
theorem ok_init {f C : Addr} {fd : FuncData} (D : Fun K "__init__" "Same.__init__" s_Same___init__ f fd) (T : TSame K C) : FnOk P w K mg base CX0 1 f fd ["self", "one", "other"] (spInit C) := by
  refine D.ok sc_Same___init__ (fun vs H Q E h => ?_) (fun cdv A outer s H vs Q E hr h => ?_)
  · obtain ⟨p, dx, x, y, rfl, _⟩ := h
    rfl
  · obtain ⟨p, dx, x, y, rfl, hp, k⟩ := h
    refine ⟨_, (pss_cons (ps_fld (pv 0) (pv 1) rfl)
      (pss_one (ps_fld (pv 0) (pv 2) rfl))), ?_⟩
    refine ⟨x, rfl, .ref p, rfl, p, C, dx, [], rfl, hp, T.cl, T.n1, (by show 0 < 1000; decide), y, rfl, .ref p, rfl, p, C, dx, _, rfl, upd_same, T.cl, T.n2, (by show 1 < 1000; decide), ?_⟩
    exact k _ upd_same fun b o e hb => by rw [upd_ne hb, upd_ne hb]; exact e
def spSame (K : PySem.W.Frag) (C : Addr) : Sp := fun vs H Q _ => ∃ (s m a b dx : Addr) (ms as bs : List Int), vs = [.ref s, .ref m] ∧ H s = some (.ins C dx (flds (.ref a) (.ref b))) ∧ H a = some (.tup (as.map V.int)) ∧ H b = some (.tup (bs.map V.int)) ∧ SqL K H m (ms.map V.int) ∧ RetV (.bl (tells2 ms as bs)) H Q
theorem isPair_shape {ns : List Int} {n : Int} (h : isPair ns n = true) : ∃ a b, ns = [a, b] ∧ 0 ≤ a ∧ a < n ∧ 0 ≤ b ∧ b < n := by
  unfold isPair at h
  split at h
  · rename_i a b
    simp only [Bool.and_eq_true, decide_eq_true_eq] at h
    exact ⟨a, b, rfl, h.1.1, h.1.2, h.2.1.1, h.2.1.2⟩
  · exact Bool.noConfusion h
theorem ok_same {f f1 f2 f3 f4 C : Addr} {fd fd1 fd2 fd3 fd4 : FuncData} (D : Fun K "shows" "Same.shows" s_Same_shows f fd) (T : Tx mg) (TS : TSame K C) (D_is_pair : Dfn K mg "is_pair" "is_pair" s_is_pair ["found", "many"] f1 fd1) (D_pair_sum : Dfn K mg "pair_sum" "pair_sum" s_pair_sum ["marks", "pair"] f2 fd2)
    (D_is_count : Dfn K mg "is_count" "is_count" s_is_count ["found", "many"] f3 fd3) (D_is_number : Dfn K mg "is_number" "is_number" s_is_number ["found"] f4 fd4) : FnOk P w K mg base CX0 4 f fd ["self", "marks"] (spSame K C) := by
  have G_is_pair : FnOk P w K mg base CX0 3 f1 fd1 ["found", "many"] spPair := ok_pair D_is_pair T D_is_count D_is_number
  have G_pair_sum : FnOk P w K mg base CX0 1 f2 fd2 ["marks", "pair"] (spSum K) := ok_sum D_pair_sum
  refine D.ok sc_Same_shows (fun vs H Q E h => ?_) (fun cdv A outer s H vs Q E hr h => ?_)
  · obtain ⟨s, m, a, b, dx, ms, as, bs, rfl, _⟩ := h
    rfl
  · obtain ⟨p, m, a, b, dx, ms, as, bs, rfl, hp, ha, hb, hm, k⟩ := h
    refine ⟨_, (pss_cons (ps_set (i := 2) sc_Same_shows.nd rfl (by first | exact Or.inl rfl | exact Or.inr rfl) (pe_callB call_len_seq (by rfl) T.b_len (by decide +kernel) (pa_cons (pv 1) pa_nil)))
      (pss_cons (ps_if (PW.pt (pw_or (pt_not (pt_val (pe_call G_is_pair (hr.mono (by decide)) (by rfl) D_is_pair.g D_is_pair.F.kp D_is_pair.b .nil pass0 (pa_cons (pe_fld (pv 0) rfl) (pa_cons (pv 2) pa_nil))))) (pw_or1 (pt_not (pt_val (pe_call G_is_pair (hr.mono (by decide)) (by rfl) D_is_pair.g D_is_pair.F.kp D_is_pair.b .nil pass0 (pa_cons (pe_fld (pv 0) rfl) (pa_cons (pv 2) pa_nil))))))))
      (pss_one (ps_ret pe_bl))
      pss_nil)
      (pss_one (ps_ret (pe_and (pe_cmpR (op_neD hr.units) (pe_fld (pv 0) rfl) (pe_fld (pv 0) rfl) (nomark _)) (pe_one (pe_cmpR op_eq (pe_call G_pair_sum (hr.mono (by decide)) (by rfl) D_pair_sum.g D_pair_sum.F.kp D_pair_sum.b .nil pass0 (pa_cons (pv 1) (pa_cons (pe_fld (pv 0) rfl) pa_nil))) (pe_call G_pair_sum (hr.mono (by decide)) (by rfl) D_pair_sum.g D_pair_sum.F.kp D_pair_sum.b .nil pass0 (pa_cons (pv 1) (pa_cons (pe_fld (pv 0) rfl) pa_nil))) (nomark _)))))))), ?_⟩
    refine q_asg (ev_lenI (ev_var rfl) hm) fun H1 e1 => ?_
    have hp1 := e1 p _ hp
    have ha1 := e1 a _ ha
    have hb1 := e1 b _ hb
    refine q_when (et_or (et_not (et_B (ev_call (ea_cons (ev_fld (ev_var rfl) hp1 TS.cl TS.n1 (flds_one _ _)) (by walk_at "ev")) fun H2 e2 Q q E => ⟨a, as, ms.length, rfl, e2 a _ ha1, q⟩)))
      fun _ => et_not (et_B (ev_call (ea_cons (ev_fld (ev_var rfl) hp1 TS.cl TS.n2 (flds_other _ _)) (by walk_at "ev")) fun H2 e2 Q q E => ⟨b, bs, ms.length, rfl, e2 b _ hb1, q⟩))) (fun hf H2 e2 => ?_) fun hf H2 e2 => ?_
    · refine s_ret ev_c fun H3 e3 => ?_
      have q := k H3 ((e1.trans e2).trans e3)
      have e : tells2 ms as bs = false := by
        unfold tells2
        cases h1 : isPair as ms.length with
        | false => rfl
        | true =>
          cases h2 : isPair bs ms.length with
          | false => rfl
          | true => rw [h1, h2] at hf; exact Bool.noConfusion hf
      rw [e] at q
      exact q
    · have hpa : isPair as ms.length = true := by
        cases h1 : isPair as ms.length with
        | true => rfl
        | false => rw [h1] at hf; exact Bool.noConfusion hf
      have hpb : isPair bs ms.length = true := by
        cases h1 : isPair bs ms.length with
        | true => rfl
        | false => rw [hpa, h1] at hf; exact Bool.noConfusion hf
      have hp2 := e2 p _ hp1
      have ha2 := e2 a _ ha1
      have hb2 := e2 b _ hb1
      have hm2 := ex_l (e1.trans e2) hm
      have hv : V.bl (tells2 ms as bs) = V.bl (!decide (as = bs) && decide (sumAt ms as = sumAt ms bs)) := by
        unfold tells2
        rw [hpa, hpb] <;> rfl
      rw [hv] at k
      obtain ⟨a1, a2, rfl, qa⟩ := isPair_shape hpa
      obtain ⟨b1, b2, rfl, qb⟩ := isPair_shape hpb
      refine s_ret (ev_andV (ev_op (ev_fld (ev_var rfl) hp2 TS.cl TS.n1 (flds_one _ _)) (ev_fld (ev_var rfl) hp2 TS.cl TS.n2 (flds_other _ _)) (rv_neTT (st_of ha2) (st_of hb2)))
        fun _ => ev_op (ev_call (ea_cons (ev_var rfl) (ea_cons (ev_fld (ev_var rfl) hp2 TS.cl TS.n1 (flds_one _ _)) ea_nil)) fun H3 e3 Q q E => ⟨m, a, ms, a1, a2, rfl, ex_l e3 hm2, e3 a _ ha2, qa, q⟩)
          (ev_call (ea_cons (ev_var rfl) (ea_cons (ev_fld (ev_var rfl) hp2 TS.cl TS.n2 (flds_other _ _)) ea_nil)) fun H3 e3 Q q E => ⟨m, b, ms, b1, b2, rfl, ex_l e3 hm2, e3 b _ hb2, qb, q⟩) (rv_eq rfl)) fun H3 e3 => ?_
      have q := k H3 ((e1.trans e2).trans e3)
      have e : decide (V.int (sumAt ms [a1, a2]) = V.int (sumAt ms [b1, b2])) = decide (sumAt ms [a1, a2] = sumAt ms [b1, b2]) := decide_eq_decide.mpr ⟨fun h => by injection h, fun h => by rw [h]⟩
      rw [e]
      exact q
/-- a class made by __init__ -/
theorem evp_same {C : Addr} {E : XK} {σ : L2.St} {H : Hp} {ta : TA} {R : List V → Hp → Prop} (mo : MonoA R) (h : EvAP ta σ H R) (hR : ∀ vs H1, R vs H1 → ∃ x y, vs = [x, y]) :
    EvP (tMake C (spInit C) [] E ta) σ H (fun v H1 => ∃ (q dx : Addr) (x y : V), v = .ref q ∧ H1 q = some (.ins C dx (flds x y)) ∧ R [x, y] H1) := fun H1 e Q q =>
  h H1 e _ fun vs H2 e2 r => by
    obtain ⟨x, y, rfl⟩ := hR vs H2 r
    intro z dx nz ndx ne
    refine ⟨z, dx, x, y, rfl, upd_same, fun H3 h3 hk => ⟨rfl, ?_⟩⟩
    have e3 : Ex H2 H3 := fun b o hb => hk b o (by rw [upd_ne (ne_of_none hb nz), upd_ne (ne_of_none hb ndx)]; exact hb) (ne_of_none hb nz)
    exact q _ H3 (e2.trans e3) ⟨z, dx, x, y, rfl, h3, mo _ _ _ e3 r⟩
theorem dec_self (v : V) : decide (v = v) = true := decide_eq_true rfl
end
end K7

namespace K7
open PySem PySem.Spec PyProof.Rows L2 Evl SX
local macro_rules | `(tactic| walk_at "cond") => `(tactic| first
  | assumption
  | exact cdiv_small (by decide) (by decide)
  | exact cmul_l (by decide) (by decide)
  | exact cmul_r (by decide) (by decide)
  | exact cpow_c (by decide) (by decide) (by decide)
  | (show (0 : Int) < _; decide)
  | (show (0 : Int) < _; omega))
local macro_rules | `(tactic| walk_at "ev") => `(tactic| first
  | with_reducible exact ev_c
  | ((with_reducible apply ev_var); exact rfl)
  | with_reducible exact ea_nil
  | with_reducible exact eo_none
  | ((with_reducible apply ea_cons) <;> walk_at "ev")
  | ((with_reducible apply eo_some); walk_at "ev")
  | ((with_reducible apply ev_op (hr := rv_I0)) <;> walk_at "ev")
  | ((with_reducible apply ev_op (hr := rv_I ?cnd)); (· walk_at "ev"); (· walk_at "ev"); (· walk_at "cond"))
  | ((with_reducible apply ev_un (hr := ru_neg)); walk_at "ev")
  | ((with_reducible apply ev_op (hr := rv_eq ?cnd)); (· walk_at "ev"); (· walk_at "ev"); (· exact rfl))
  | ((with_reducible apply ev_op (hr := rv_ne ?cnd)); (· walk_at "ev"); (· walk_at "ev"); (· exact rfl))
  | ((with_reducible apply ev_lenI); (· walk_at "ev"); (· assumption))
  | ((with_reducible apply ev_ixL); (· walk_at "ev"); (· walk_at "ev"); (· assumption); (· first | exact atI_nat (j := 0) rfl | exact atI_nat (j := 1) rfl | exact atI_nat (j := 2) rfl))
  | ((with_reducible apply et_test); walk_at "ev")
  | ((with_reducible apply et_B); walk_at "ev"))
local macro_rules | `(tactic| walk_at "tup") => `(tactic| first
  | ((with_reducible apply evp_T [_, _]); (· walk_at "ev"); (· exact rfl); (· show 2 ≤ 100000; decide))
  | ((with_reducible apply evp_T [_]); (· walk_at "ev"); (· exact rfl); (· show 1 ≤ 100000; decide))
  | ((with_reducible apply evp_T [_, _, _]); (· walk_at "ev"); (· exact rfl); (· show 3 ≤ 100000; decide))
  | ((with_reducible apply evp_T []); (· walk_at "ev"); (· exact rfl); (· show 0 ≤ 100000; decide)))
local macro_rules | `(tactic| walk_at "pairs") => `(tactic| first
  | with_reducible exact eal_nil
  | ((with_reducible apply eal_cons PairT.mono); (· ((with_reducible apply evp_pair) <;> walk_at "tup")); (· walk_at "pairs")))
abbrev s_is_prime : Stmt := topS 5
abbrev N_is_prime : List Str := ["found", "part"]
theorem sc_is_prime : FnScope N_is_prime ["found"] (defScope s_is_prime) := ⟨rfl, rfl, rfl, by decide +kernel, rfl, by decide +kernel, by decide +kernel⟩
abbrev s_power : Stmt := topS 6
abbrev N_power : List Str := ["base", "exponent", "prime", "result", "square", "left"]
theorem sc_power : FnScope N_power ["base", "exponent", "prime"] (defScope s_power) := ⟨rfl, rfl, rfl, by decide +kernel, rfl, by decide +kernel, by decide +kernel⟩
abbrev s_inverse : Stmt := topS 7
abbrev N_inverse : List Str := ["number", "prime"]
theorem sc_inverse : FnScope N_inverse ["number", "prime"] (defScope s_inverse) := ⟨rfl, rfl, rfl, by decide +kernel, rfl, by decide +kernel, by decide +kernel⟩
abbrev s_no_square : Stmt := topS 8
abbrev N_no_square : List Str := ["prime", "number"]
theorem sc_no_square : FnScope N_no_square ["prime"] (defScope s_no_square) := ⟨rfl, rfl, rfl, by decide +kernel, rfl, by decide +kernel, by decide +kernel⟩
abbrev s_twos_in : Stmt := topS 9
abbrev N_twos_in : List Str := ["number", "many", "left"]
theorem sc_twos_in : FnScope N_twos_in ["number"] (defScope s_twos_in) := ⟨rfl, rfl, rfl, by decide +kernel, rfl, by decide +kernel, by decide +kernel⟩
abbrev s_root : Stmt := topS 10
abbrev N_root : List Str := ["square", "prime", "many", "odd", "result", "excess", "turn", "level"]
theorem sc_root : FnScope N_root ["square", "prime"] (defScope s_root) := ⟨rfl, rfl, rfl, by decide +kernel, rfl, by decide +kernel, by decide +kernel⟩
section
variable {P : Program} {w : World} {K : PySem.W.Frag} {mg : Str → Option Value} {base : Heap}
/-! ### is_prime -/
def spIsPrime : Sp := fun vs H Q _ => ∃ v, vs = [v] ∧ ((∃ i : Int, v = .int i ∧ ∀ b : Bool, (b = true ↔ NT.PrI i) → RetV (.bl b) H Q) ∨ (NumV v H false ∧ RetV (.bl false) H Q))
theorem prime_test (i : Int) : (false || (decide (i < 3) || (decide (1000000 < i) || decide (V.int (i % 2) = V.int 0)))) = !decide (3 ≤ i ∧ i ≤ 1000000 ∧ i % 2 = 1) := by
  rw [Bool.eq_iff_iff]
  simp only [Bool.or_eq_true, decide_eq_true_eq, Bool.not_eq_true', decide_eq_false_iff_not, V.int.injEq, Bool.false_eq_true, false_or]
  omega
theorem ok_isPrime {f f1 : Addr} {fd fd1 : FuncData} {tGP : Tok} (D : Dfn K mg "is_prime" "is_prime" s_is_prime ["found"] f fd) (T : Tx mg) (g_GREATEST_PRIME : mg "GREATEST_PRIME" = some (.int 1000000 tGP)) (g_isqrt : mg "isqrt" = some (.builtin "math.isqrt")) (D_is_number : Dfn K mg "is_number" "is_number" s_is_number ["found"] f1 fd1) : FnOk P w K mg base CX0 2 f fd ["found"] spIsPrime := by
  have G_is_number : FnOk P w K mg base CX0 1 f1 fd1 ["found"] spNumber := ok_number D_is_number T
  refine D.F.ok sc_is_prime (fun vs H Q E h => ?_) (fun cdv A outer s H vs Q E hr h => ?_)
  · obtain ⟨v, rfl, _⟩ := h
    rfl
  · obtain ⟨v, rfl, h⟩ := h
    refine ⟨_, (pss_cons (ps_if (PW.pt (pw_or (pt_not (pt_val (pe_call G_is_number (hr.mono (by decide)) (by rfl) D_is_number.g D_is_number.F.kp D_is_number.b .nil pass0 (pa_cons (pv 0) pa_nil)))) (pw_or (pt_cmpR op_lt (pv 0) pe_int (nomark _)) (pw_or (pt_cmpR op_gt (pv 0) (pe_glob (v := .int 1000000) (by rfl) g_GREATEST_PRIME ⟨_, rfl⟩) (nomark _)) (pw_or1 (pt_cmpR op_eq (pe_op op_mod (pv 0) pe_int) pe_int (nomark _)))))))
      (pss_one (ps_ret pe_bl))
      pss_nil)
      (pss_cons (ps_for PassesOwn.never rfl (pi_range3 (by rfl) T.b_range (pa_cons pe_int (pa_cons (pe_op op_add (pe_callBfun SX.cr_isqrt (by rfl) g_isqrt (pa_cons (pv 0) pa_nil)) pe_int) (pa_cons pe_int pa_nil)))) (pg_name (i := 1) sc_is_prime.nd rfl (by first | exact Or.inl rfl | exact Or.inr rfl))
      (pss_one (ps_if (pt_cmpR op_eq (pe_op op_mod (pv 0) (pv 1)) pe_int (nomark _))
      (pss_one (ps_ret pe_bl))
      pss_nil)))
      (pss_one (ps_ret pe_bl)))), ?_⟩
    rcases h with ⟨i, rfl, k⟩ | ⟨hn, k⟩
    · refine q_when (et_is (et_or (et_not (et_B (ev_call (by walk_at "ev") fun H1 e Q q E => ⟨_, true, rfl, .inl ⟨i, rfl, rfl⟩, q⟩))) fun _ => et_or (et_test (ev_op (ev_var rfl) ev_c rv_I0)) fun _ => et_or (et_test (ev_op (ev_var rfl) ev_c rv_I0)) fun _ => et_test (ev_op (ev_op (ev_var rfl) ev_c (rv_I (by show (0 : Int) < 2; decide))) ev_c (rv_eq rfl))) (prime_test i)) (fun hb H1 e1 => ?_) fun hb H1 e1 => ?_
      · refine s_ret ev_c fun H2 e2 => k false ⟨(fun h => nomatch h), fun hp => ?_⟩ H2 (e1.trans e2)
        have := hp.odd
        have h1 := hp.1
        have h2 := hp.2.1
        rw [decide_eq_true ⟨h1, h2, this⟩] at hb
        exact nomatch hb
      · have hc : 3 ≤ i ∧ i ≤ 1000000 ∧ i % 2 = 1 := by
          cases h : decide (3 ≤ i ∧ i ≤ 1000000 ∧ i % 2 = 1) with
          | true => exact of_decide_eq_true h
          | false => rw [h] at hb; exact nomatch hb
        obtain ⟨h3, h6, ho⟩ := hc
        have hsq := Float64.isqrt_spec i.toNat
        generalize hs : Float64.isqrt i.toNat = s at hsq
        have hs6 : s < 1001 := by
          refine Nat.lt_of_not_le fun hh => ?_
          have : 1001 * 1001 ≤ s * s := Nat.mul_le_mul hh hh
          omega
        have hn : rgN 3 ((s : Int) + 1) 2 = if 3 < s + 1 then (s - 3) / 2 + 1 else 0 := by
          unfold rgN
          by_cases hh : 3 < s + 1
          · rw [if_pos hh, if_pos (by omega)]
            omega
          · rw [if_neg hh, if_neg (by omega)]
            rfl
        refine q_forR3 (lo := 3) (hi := (s : Int) + 1) (c := 2) (ea_cons ev_c (ea_cons (ev_op (ev_is (ev_isqrt (ev_var rfl) (by omega) (by omega)) (by rw [hs])) ev_c rv_I0) (ea_cons ev_c ea_nil))) (rgN_ok (by decide) (by decide) (by decide) (by decide) (by omega) (by omega)) (fun j σ' H' => ∃ y1, σ' = [some (.int i), y1] ∧ Ex H1 H' ∧ ∀ k, k < j → ¬ (3 + 2 * k) ∣ i.toNat)
          (fun H2 e2 => ⟨_, rfl, e2, fun k hk => absurd hk (by omega)⟩) ?_ ?_
        · rintro j σ' H2 hj ⟨y1, rfl, e2, hd⟩
          rw [hn] at hj
          have hjs : 3 + 2 * j ≤ s := by
            by_cases hh : 3 < s + 1
            · rw [if_pos hh] at hj
              omega
            · rw [if_neg hh] at hj
              omega
          have hdv : (3 + 2 * j) ∣ i.toNat ↔ i % (3 + (j : Int) * 2) = 0 := by
            constructor
            · intro h
              have h2 := Int.natCast_dvd_natCast.mpr h
              have e : ((3 + 2 * j : Nat) : Int) = 3 + (j : Int) * 2 := by omega
              rw [e, Int.toNat_of_nonneg (by omega)] at h2
              exact Int.emod_eq_zero_of_dvd h2
            · intro h
              have h2 := Int.dvd_of_emod_eq_zero h
              have e : ((3 + 2 * j : Nat) : Int) = 3 + (j : Int) * 2 := by omega
              refine Int.natCast_dvd_natCast.mp ?_
              rw [e, Int.toNat_of_nonneg (by omega)]
              exact h2
          refine s_when (et_test (ev_op (ev_op (ev_var rfl) (ev_var rfl) (rv_I (by show (0 : Int) < 3 + (j : Int) * 2; omega))) ev_c (rv_eq rfl))) (fun hb2 H3 e3 => ?_) fun hb2 H3 e3 => ?_
          · have h0 : i % (3 + (j : Int) * 2) = 0 := by
              have := of_decide_eq_true hb2
              injection this
            refine s_ret ev_c fun H4 e4 => k false ⟨(fun h => nomatch h), fun hp => ?_⟩ H4 (((e1.trans e2).trans e3).trans e4)
            exact absurd hp.2.2 (NT.not_pr (by omega) hsq.1 (by omega) hjs (hdv.mpr h0))
          · have h0 : ¬ i % (3 + (j : Int) * 2) = 0 := fun e => of_decide_eq_false hb2 (by rw [e])
            refine ⟨_, rfl, e2.trans e3, fun k hk => ?_⟩
            by_cases hkj : k = j
            · rw [hkj]
              exact fun h => h0 (hdv.mp h)
            · exact hd k (by omega)
        · rintro σ' H2 ⟨y1, rfl, e2, hd⟩
          rw [hn] at hd
          refine s_ret ev_c fun H3 e3 => k true ⟨fun _ => ⟨h3, h6, NT.trial (s := s) (n := if 3 < s + 1 then (s - 3) / 2 + 1 else 0) (by omega) (by omega) hsq.2 ?_ hd⟩, fun _ => rfl⟩ H3 ((e1.trans e2).trans e3)
          by_cases hh : 3 < s + 1
          · rw [if_pos hh]
            omega
          · rw [if_neg hh]
            omega
    · exact q_when (b := true) (et_or (a := true) (b := true) (et_not (a := false) (et_B (ev_call (by walk_at "ev") fun H1 e Q q E => ⟨_, false, rfl, hn.mono e, q⟩))) fun h => nomatch h) (fun _ H1 e1 => s_ret ev_c fun H2 e2 => k H2 (e1.trans e2)) fun h => nomatch h
/-! ### power -/
def spPower : Sp := fun vs H Q _ => ∃ b e p : Int, vs = [.int b, .int e, .int p] ∧ 0 ≤ e ∧ 2 ≤ p ∧ p ≤ 1000000 ∧ RetV (.int (b ^ e.toNat % p)) H Q
theorem ok_power {f : Addr} {fd : FuncData} (D : Dfn K mg "power" "power" s_power ["base", "exponent", "prime"] f fd) : FnOk P w K mg base CX0 1 f fd ["base", "exponent", "prime"] spPower := by
  refine D.F.ok sc_power (fun vs H Q E h => ?_) (fun cdv A outer s H vs Q E hr h => ?_)
  · obtain ⟨b, e, p, rfl, _⟩ := h
    rfl
  · obtain ⟨b, e, p, rfl, he, p2, p6, k⟩ := h
    refine ⟨_, (pss_cons (ps_set (i := 3) sc_power.nd rfl (by first | exact Or.inl rfl | exact Or.inr rfl) pe_int)
      (pss_cons (ps_set (i := 4) sc_power.nd rfl (by first | exact Or.inl rfl | exact Or.inr rfl) (pe_op op_mod (pv 0) (pv 2)))
      (pss_cons (ps_set (i := 5) sc_power.nd rfl (by first | exact Or.inl rfl | exact Or.inr rfl) (pv 1))
      (pss_cons (ps_while PassesOwn.never (pt_cmpR op_gt (pv 5) pe_int (nomark _))
      (pss_cons (ps_if (pt_cmpR op_eq (pe_op op_mod (pv 5) pe_int) pe_int (nomark _))
      (pss_one (ps_set (i := 3) sc_power.nd rfl (by first | exact Or.inl rfl | exact Or.inr rfl) (pe_op op_mod (pe_op op_mul (pv 3) (pv 4)) (pv 2))))
      pss_nil)
      (pss_cons (ps_set (i := 4) sc_power.nd rfl (by first | exact Or.inl rfl | exact Or.inr rfl) (pe_op op_mod (pe_op op_mul (pv 4) (pv 4)) (pv 2)))
      (pss_one (ps_set (i := 5) sc_power.nd rfl (by first | exact Or.inl rfl | exact Or.inr rfl) (pe_op op_fdivW (pv 5) pe_int))))))
      (pss_one (ps_ret (pv 3))))))), ?_⟩
    obtain ⟨n, rfl⟩ : ∃ n : Nat, p = (n : Int) := Int.eq_ofNat_of_zero_le (by omega)
    obtain ⟨m, rfl⟩ : ∃ m : Nat, e = (m : Int) := Int.eq_ofNat_of_zero_le he
    have hpp : (0 : Int) < (n : Int) := by omega
    refine q_asg (v := .int 1) ev_c fun H1 e1 => ?_
    refine q_asg (v := .int (b % (n : Int))) (ev_op (ev_var rfl) (ev_var rfl) (rv_I hpp)) fun H2 e2 => ?_
    refine q_asg (v := .int (m : Int)) (ev_var rfl) fun H3 e3 => ?_
    refine q_while (fun c σ' H' => ∃ (r s : Int), σ' = [some (.int b), some (.int (m : Int)), some (.int (n : Int)), some (.int r), some (.int s), some (.int (c : Int))] ∧ Ex H H' ∧ 0 ≤ r ∧ r < n ∧ 0 ≤ s ∧ s < n ∧ NT.Cg n (r * s ^ c) (b ^ m)) m ⟨1, b % (n : Int), rfl, (e1.trans e2).trans e3, by omega, by omega, Int.emod_nonneg _ (by omega), Int.emod_lt_of_pos _ hpp, ?_⟩ ?_
    · rw [Int.one_mul]
      exact NT.Cg.mod.pow m
    · rintro c σ' H4 ⟨r, s, rfl, e4, r0, r1, s0, s1, hc⟩
      refine ⟨_, et_test (ev_op (ev_var rfl) ev_c rv_I0), fun hb H5 e5 => ?_, fun hb H5 e5 => ?_⟩
      · have hc0 : 0 < c := by
          have := of_decide_eq_true hb
          omega
        have c1 : CMul r s := cmul_l (by omega) (by omega)
        have c2 : CMul s s := cmul_l (by omega) (by omega)
        refine ⟨fun σ2 H2 => ∃ (r s : Int), σ2 = [some (.int b), some (.int (m : Int)), some (.int (n : Int)), some (.int r), some (.int s), some (.int ((c / 2 : Nat) : Int))] ∧ Ex H H2 ∧ 0 ≤ r ∧ r < n ∧ 0 ≤ s ∧ s < n ∧ NT.Cg n (r * s ^ (c / 2)) (b ^ m), fun σ2 H2 h => ⟨c / 2, by omega, h⟩, ?_⟩
        refine q_ifAsg (b := decide (c % 2 = 1)) (v := .int (if c % 2 = 1 then r * s % (n : Int) else r)) (et_is (et_test (ev_op (ev_op (ev_var rfl) ev_c (rv_I (by show (0 : Int) < 2; decide))) ev_c (rv_eq rfl))) (decide_eq_decide.mpr ⟨fun h => by injection h with h; omega, fun h => by congr 1; omega⟩)) (fun hb2 => ?_) (fun hb2 => ?_) fun H6 e6 => ?_
        · rw [if_pos (of_decide_eq_true hb2)]
          exact ev_op (ev_op (ev_var rfl) (ev_var rfl) (rv_I c1)) (ev_var rfl) (rv_I hpp)
        · rw [if_neg (of_decide_eq_false hb2)]
          rfl
        · refine q_asg (v := .int (s * s % (n : Int))) (ev_op (ev_op (ev_var rfl) (ev_var rfl) (rv_I c2)) (ev_var rfl) (rv_I hpp)) fun H7 e7 => ?_
          refine s_asg (v := .int ((c / 2 : Nat) : Int)) (ev_is (ev_op (ev_var rfl) ev_c (rv_I (cdiv_small (by decide) (by decide)))) (by congr 1 <;> omega)) fun H8 e8 => ?_
          refine ⟨_, _, rfl, (((e4.trans e5).trans e6).trans e7).trans e8, ?_, ?_, Int.emod_nonneg _ (by omega), Int.emod_lt_of_pos _ hpp, NT.pow_step hc⟩
          · split
            · exact Int.emod_nonneg _ (by omega)
            · exact r0
          · split
            · exact Int.emod_lt_of_pos _ hpp
            · exact r1
      · have hc0 : c = 0 := by
          have := of_decide_eq_false hb
          omega
        subst hc0
        rw [Int.pow_zero, Int.mul_one] at hc
        refine s_ret (v := .int (b ^ m % (n : Int))) (ev_is (ev_var rfl) (by rw [← NT.pow_done hc r0 r1])) fun H6 e6 => ?_
        have q := k H6 ((e4.trans e5).trans e6)
        rw [Int.toNat_natCast] at q
        exact q
def spInverse : Sp := fun vs H Q _ => ∃ b p : Int, vs = [.int b, .int p] ∧ 2 ≤ p ∧ p ≤ 1000000 ∧ RetV (.int (b ^ (p - 2).toNat % p)) H Q
theorem ok_inverse {f f1 : Addr} {fd fd1 : FuncData} (D : Dfn K mg "inverse" "inverse" s_inverse ["number", "prime"] f fd) (D_power : Dfn K mg "power" "power" s_power ["base", "exponent", "prime"] f1 fd1) : FnOk P w K mg base CX0 2 f fd ["number", "prime"] spInverse := by
  have G_power : FnOk P w K mg base CX0 1 f1 fd1 ["base", "exponent", "prime"] spPower := ok_power D_power
  refine D.F.ok sc_inverse (fun vs H Q E h => ?_) (fun cdv A outer s H vs Q E hr h => ?_)
  · obtain ⟨b, p, rfl, _⟩ := h
    rfl
  · obtain ⟨b, p, rfl, p2, p6, k⟩ := h
    refine ⟨_, (pss_one (ps_ret (pe_call G_power (hr.mono (by decide)) (by rfl) D_power.g D_power.F.kp D_power.b .nil pass0 (pa_cons (pv 0) (pa_cons (pe_op op_sub (pv 1) pe_int) (pa_cons (pv 1) pa_nil)))))), ?_⟩
    exact s_ret (ev_call (by walk_at "ev") fun H1 e Q q E => ⟨b, p - 2, p, rfl, by omega, p2, p6, q⟩) fun H2 e2 => k H2 e2
/-! ### no_square, twos_in -/
def spNoSquare : Sp := fun vs H Q _ => ∃ p : Nat, vs = [.int p] ∧ NT.Pr p ∧ 3 ≤ p ∧ p ≤ 1000000 ∧ ∀ z : Nat, 2 ≤ z → z < p → ¬ NT.Cg p ((z : Int) ^ ((p - 1) / 2)) 1 → RetV (.int z) H Q
theorem half_eq {p : Nat} (hp : NT.Pr p) (h3 : 3 ≤ p) : ((p : Int) / 2).toNat = (p - 1) / 2 := by
  have := NT.half hp h3
  omega
/-- whether a power leaves 1 -/
theorem one_dec {p : Nat} (h3 : 3 ≤ p) (x : Int) : (decide (V.int (x % (p : Int)) = V.int 1) = true) ↔ NT.Cg p x 1 := by
  rw [decide_eq_true_eq, NT.cg_iff, show (1 : Int) % (p : Int) = 1 from Int.emod_eq_of_lt (by decide) (by omega)]
  exact ⟨fun h => by injection h, fun h => by rw [h]⟩
theorem ok_noSquare {f f1 : Addr} {fd fd1 : FuncData} (D : Dfn K mg "no_square" "no_square" s_no_square ["prime"] f fd) (D_power : Dfn K mg "power" "power" s_power ["base", "exponent", "prime"] f1 fd1) : FnOk P w K mg base CX0 2 f fd ["prime"] spNoSquare := by
  have G_power : FnOk P w K mg base CX0 1 f1 fd1 ["base", "exponent", "prime"] spPower := ok_power D_power
  refine D.F.ok sc_no_square (fun vs H Q E h => ?_) (fun cdv A outer s H vs Q E hr h => ?_)
  · obtain ⟨p, rfl, _⟩ := h
    rfl
  · obtain ⟨p, rfl, hp, p3, p6, k⟩ := h
    refine ⟨_, (pss_cons (ps_set (i := 1) sc_no_square.nd rfl (by first | exact Or.inl rfl | exact Or.inr rfl) pe_int)
      (pss_cons (ps_while PassesOwn.never (pt_cmpR op_eq (pe_call G_power (hr.mono (by decide)) (by rfl) D_power.g D_power.F.kp D_power.b .nil pass0 (pa_cons (pv 1) (pa_cons (pe_op op_fdivW (pv 0) pe_int) (pa_cons (pv 0) pa_nil)))) pe_int (nomark _))
      (pss_one (ps_aug (i := 1) sc_no_square.nd rfl (by first | exact Or.inl rfl | exact Or.inr rfl) pe_int ip_add)))
      (pss_one (ps_ret (pv 1))))), ?_⟩
    obtain ⟨z0, z2, z1, hz⟩ := NT.ex_nonres hp p3
    refine q_asg (v := .int ((2 : Nat) : Int)) ev_c fun H1 e1 => ?_
    refine q_while (fun c σ' H' => ∃ x : Nat, σ' = [some (.int (p : Int)), some (.int (x : Int))] ∧ Ex H H' ∧ 2 ≤ x ∧ x ≤ z0 ∧ c = z0 - x) _ ⟨2, rfl, e1, Nat.le_refl _, z2, rfl⟩ ?_
    rintro c σ' H2 ⟨x, rfl, e2, x2, xz, rfl⟩
    refine ⟨_, et_test (ev_op (ev_call (by walk_at "ev") fun H3 e3 Q3 q3 E3 => ⟨(x : Int), (p : Int) / 2, (p : Int), rfl, by omega, by omega, by omega, q3⟩) ev_c (rv_eq rfl)), fun hb H3 e3 => ?_, fun hb H3 e3 => ?_⟩
    · rw [half_eq hp p3] at hb
      have hx := (one_dec p3 _).mp hb
      have hne : x ≠ z0 := fun e => hz (e ▸ hx)
      refine ⟨fun σ2 H2 => σ2 = [some (.int (p : Int)), some (.int ((x + 1 : Nat) : Int))] ∧ Ex H H2, fun σ2 H2 h => ⟨z0 - (x + 1), by omega, x + 1, h.1, h.2, by omega, by omega, rfl⟩, ?_⟩
      exact s_aug (a := (x : Int)) (b := 1) rfl ev_c fun H4 e4 => ⟨rfl, (e2.trans e3).trans e4⟩
    · rw [half_eq hp p3] at hb
      refine s_ret (ev_var rfl) fun H4 e4 => k x x2 (by omega) (fun h => ?_) H4 ((e2.trans e3).trans e4)
      rw [(one_dec p3 _).mpr h] at hb
      exact nomatch hb
def spTwos : Sp := fun vs H Q _ => ∃ n : Nat, vs = [.int n] ∧ 0 < n ∧ n ≤ 1000000 ∧ ∀ (t : Addr) (H2 : Hp) (a m : Nat), n = 2 ^ a * m → m % 2 = 1 → Ex H H2 → H2 t = some (.tup [.int a, .int m]) → Q (.ref t) H2
theorem ok_twos {f : Addr} {fd : FuncData} (D : Dfn K mg "twos_in" "twos_in" s_twos_in ["number"] f fd) : FnOk P w K mg base CX0 1 f fd ["number"] spTwos := by
  refine D.F.ok sc_twos_in (fun vs H Q E h => ?_) (fun cdv A outer s H vs Q E hr h => ?_)
  · obtain ⟨n, rfl, _⟩ := h
    rfl
  · obtain ⟨n, rfl, n0, n6, k⟩ := h
    refine ⟨_, (pss_cons (ps_set (i := 1) sc_twos_in.nd rfl (by first | exact Or.inl rfl | exact Or.inr rfl) pe_int)
      (pss_cons (ps_set (i := 2) sc_twos_in.nd rfl (by first | exact Or.inl rfl | exact Or.inr rfl) (pv 0))
      (pss_cons (ps_while PassesOwn.never (pt_cmpR op_eq (pe_op op_mod (pv 2) pe_int) pe_int (nomark _))
      (pss_cons (ps_set (i := 2) sc_twos_in.nd rfl (by first | exact Or.inl rfl | exact Or.inr rfl) (pe_op op_fdivW (pv 2) pe_int))
      (pss_one (ps_aug (i := 1) sc_twos_in.nd rfl (by first | exact Or.inl rfl | exact Or.inr rfl) pe_int ip_add))))
      (pss_one (ps_ret (pe_tup (pa_cons (pv 1) (pa_cons (pv 2) pa_nil)))))))), ?_⟩
    refine q_asg (v := .int ((0 : Nat) : Int)) ev_c fun H1 e1 => ?_
    refine q_asg (v := .int (n : Int)) (ev_var rfl) fun H2 e2 => ?_
    refine q_while (fun c σ' H' => ∃ a : Nat, σ' = [some (.int (n : Int)), some (.int (a : Int)), some (.int (c : Int))] ∧ Ex H H' ∧ 0 < c ∧ n = 2 ^ a * c) n ⟨0, rfl, e1.trans e2, n0, by simp⟩ ?_
    rintro c σ' H3 ⟨a, rfl, e3, c0, hn⟩
    refine ⟨decide (c % 2 = 0), et_is (et_test (ev_op (ev_op (ev_var rfl) ev_c (rv_I (by show (0 : Int) < 2; decide))) ev_c (rv_eq rfl))) (decide_eq_decide.mpr ⟨fun h => by injection h with h; omega, fun h => by congr 1; omega⟩), fun hb H4 e4 => ?_, fun hb H4 e4 => ?_⟩
    · have hc := of_decide_eq_true hb
      refine ⟨fun σ2 H2 => σ2 = [some (.int (n : Int)), some (.int ((a + 1 : Nat) : Int)), some (.int ((c / 2 : Nat) : Int))] ∧ Ex H H2, fun σ2 H2 h => ⟨c / 2, by omega, a + 1, h.1, h.2, by omega, ?_⟩, ?_⟩
      · rw [hn, Nat.pow_succ, Nat.mul_assoc]
        congr 1
        omega
      · refine q_asg (v := .int ((c / 2 : Nat) : Int)) (ev_is (ev_op (ev_var rfl) ev_c (rv_I (cdiv_small (by decide) (by decide)))) (by congr 1 <;> omega)) fun H5 e5 => ?_
        exact s_aug (a := (a : Int)) (b := 1) rfl ev_c fun H6 e6 => ⟨rfl, ((e3.trans e4).trans e5).trans e6⟩
    · have hc := of_decide_eq_false hb
      exact s_retU (eu_tup (by walk_at "ev") (by show 2 ≤ 100000; decide)) fun t H5 ht e5 h5 => k t H5 a c hn (by omega) ((e3.trans e4).trans e5) h5
/-! ### root -/
def RootV (p : Nat) (s : Int) (v : V) : Prop := (∃ g : Int, v = .int g ∧ 0 ≤ g ∧ g < p ∧ NT.Cg p (g * g) s) ∨ (v = .non ∧ ∀ g : Int, ¬ NT.Cg p (g * g) s)
def spRoot : Sp := fun vs H Q _ => ∃ (s : Int) (p : Nat), vs = [.int s, .int p] ∧ NT.Pr p ∧ 3 ≤ p ∧ p ≤ 1000000 ∧ ∀ v, RootV p s v → RetV v H Q
theorem ok_root {f f1 f2 f3 : Addr} {fd fd1 fd2 fd3 : FuncData} (D : Dfn K mg "root" "root" s_root ["square", "prime"] f fd) (T : Tx mg) (D_power : Dfn K mg "power" "power" s_power ["base", "exponent", "prime"] f1 fd1) (D_no_square : Dfn K mg "no_square" "no_square" s_no_square ["prime"] f2 fd2) (D_twos_in : Dfn K mg "twos_in" "twos_in" s_twos_in ["number"] f3 fd3) :
    FnOk P w K mg base CX0 3 f fd ["square", "prime"] spRoot := by
  have G_power : FnOk P w K mg base CX0 1 f1 fd1 ["base", "exponent", "prime"] spPower := ok_power D_power
  have G_no_square : FnOk P w K mg base CX0 2 f2 fd2 ["prime"] spNoSquare := ok_noSquare D_no_square D_power
  have G_twos_in : FnOk P w K mg base CX0 1 f3 fd3 ["number"] spTwos := ok_twos D_twos_in
  refine D.F.ok sc_root (fun vs H Q E h => ?_) (fun cdv A outer s H vs Q E hr h => ?_)
  · obtain ⟨s, p, rfl, _⟩ := h
    rfl
  · obtain ⟨sq, p, rfl, hp, p3, p6, k⟩ := h
    refine ⟨_, (pss_cons (ps_if (pt_cmpR op_eq (pe_op op_mod (pv 0) (pv 1)) pe_int (nomark _))
      (pss_one (ps_ret pe_int))
      pss_nil)
      (pss_cons (ps_if (pt_cmpR op_ne (pe_call G_power (hr.mono (by decide)) (by rfl) D_power.g D_power.F.kp D_power.b .nil pass0 (pa_cons (pv 0) (pa_cons (pe_op op_fdivW (pv 1) pe_int) (pa_cons (pv 1) pa_nil)))) pe_int (nomark _))
      (pss_one (ps_ret pe_non))
      pss_nil)
      (pss_cons (ps_asg (pe_call G_twos_in (hr.mono (by decide)) (by rfl) D_twos_in.g D_twos_in.F.kp D_twos_in.b .nil pass0 (pa_cons (pe_op op_sub (pv 1) pe_int) pa_nil)) (pg_tup rfl (pgs_cons (pg_name (i := 2) sc_root.nd rfl (by first | exact Or.inl rfl | exact Or.inr rfl)) (pgs_cons (pg_name (i := 3) sc_root.nd rfl (by first | exact Or.inl rfl | exact Or.inr rfl)) pgs_nil))))
      (pss_cons (ps_set (i := 4) sc_root.nd rfl (by first | exact Or.inl rfl | exact Or.inr rfl) (pe_call G_power (hr.mono (by decide)) (by rfl) D_power.g D_power.F.kp D_power.b .nil pass0 (pa_cons (pv 0) (pa_cons (pe_op op_add (pe_op op_fdivW (pv 3) pe_int) pe_int) (pa_cons (pv 1) pa_nil)))))
      (pss_cons (ps_set (i := 5) sc_root.nd rfl (by first | exact Or.inl rfl | exact Or.inr rfl) (pe_call G_power (hr.mono (by decide)) (by rfl) D_power.g D_power.F.kp D_power.b .nil pass0 (pa_cons (pv 0) (pa_cons (pv 3) (pa_cons (pv 1) pa_nil)))))
      (pss_cons (ps_set (i := 6) sc_root.nd rfl (by first | exact Or.inl rfl | exact Or.inr rfl) (pe_call G_power (hr.mono (by decide)) (by rfl) D_power.g D_power.F.kp D_power.b .nil pass0 (pa_cons (pe_call G_no_square (hr.mono (by decide)) (by rfl) D_no_square.g D_no_square.F.kp D_no_square.b .nil pass0 (pa_cons (pv 1) pa_nil)) (pa_cons (pv 3) (pa_cons (pv 1) pa_nil)))))
      (pss_cons (ps_for PassesOwn.never rfl (pi_revR (by rfl) T.b_reversed (prg_1 (by rfl) T.b_range (pe_op op_sub (pv 2) pe_int))) (pg_name (i := 7) sc_root.nd rfl (by first | exact Or.inl rfl | exact Or.inr rfl))
      (pss_cons (ps_if (pt_cmpR op_ne (pe_call G_power (hr.mono (by decide)) (by rfl) D_power.g D_power.F.kp D_power.b .nil pass0 (pa_cons (pv 5) (pa_cons (pe_op op_shl pe_int (pv 7)) (pa_cons (pv 1) pa_nil)))) pe_int (nomark _))
      (pss_cons (ps_set (i := 4) sc_root.nd rfl (by first | exact Or.inl rfl | exact Or.inr rfl) (pe_op op_mod (pe_op op_mul (pv 4) (pv 6)) (pv 1)))
      (pss_one (ps_set (i := 5) sc_root.nd rfl (by first | exact Or.inl rfl | exact Or.inr rfl) (pe_op op_mod (pe_op op_mul (pe_op op_mul (pv 5) (pv 6)) (pv 6)) (pv 1)))))
      pss_nil)
      (pss_one (ps_set (i := 6) sc_root.nd rfl (by first | exact Or.inl rfl | exact Or.inr rfl) (pe_op op_mod (pe_op op_mul (pv 6) (pv 6)) (pv 1))))))
      (pss_one (ps_ret (pv 4)))))))))), ?_⟩
    have hpp : (0 : Int) < (p : Int) := by omega
    have pw : ∀ {σ : L2.St} {H : Hp} {ta tb tc : TE} {E : XK} {b : Int} {e : Nat}, Ev ta σ H (.int b) → Ev tb σ H (.int (e : Int)) → Ev tc σ H (.int (p : Int)) → Ev (tCall spPower [] E (tCons ta (tCons tb (tCons tc tNil)))) σ H (.int (b ^ e % (p : Int))) := fun {σ H ta tb tc E b e} ha hb hc =>
      ev_call (ea_cons ha (ea_cons hb (ea_cons hc ea_nil))) fun H1 e1 Q q E => ⟨b, (e : Int), (p : Int), rfl, by omega, by omega, by omega, by rw [Int.toNat_natCast]; exact q⟩
    refine q_when (et_test (ev_op (ev_op (ev_var rfl) (ev_var rfl) (rv_I hpp)) ev_c (rv_eq rfl))) (fun hb H1 e1 => ?_) fun hb H1 e1 => ?_
    · have h0 : sq % (p : Int) = 0 := by
        have := of_decide_eq_true hb
        injection this
      refine s_ret ev_c fun H2 e2 => k _ (.inl ⟨0, rfl, Int.le_refl _, hpp, ?_⟩) H2 (e1.trans e2)
      rw [Int.mul_zero]
      exact (NT.Cg.zero.mpr (Int.dvd_of_emod_eq_zero h0)).symm
    · have h0 : ¬ (p : Int) ∣ sq := fun h => of_decide_eq_false hb (by rw [Int.emod_eq_zero_of_dvd h])
      have hhalf : (p : Int) / 2 = (((p - 1) / 2 : Nat) : Int) := by
        have := NT.half hp p3
        omega
      refine q_when (et_test (ev_op (pw (ev_var rfl) (ev_is (ev_op (ev_var rfl) ev_c (rv_I (cdiv_small (by decide) (by decide)))) (congrArg V.int hhalf)) (ev_var rfl)) ev_c (rv_ne rfl))) (fun hb2 H2 e2 => ?_) fun hb2 H2 e2 => ?_
      · refine s_ret ev_c fun H3 e3 => k _ (.inr ⟨rfl, fun g hg => ?_⟩) H3 ((e1.trans e2).trans e3)
        rw [(one_dec p3 _).mpr (NT.square_half hp p3 h0 hg)] at hb2
        exact nomatch hb2
      · have h1 : NT.Cg p (sq ^ ((p - 1) / 2)) 1 := (one_dec p3 _).mp (by
          cases h : decide (V.int (sq ^ ((p - 1) / 2) % (p : Int)) = V.int 1) with
          | true => rfl
          | false => rw [h] at hb2; exact nomatch hb2)
        have e02 := e1.trans e2
        refine q_twoP (P := fun v H' => ∃ (t : Addr) (a m : Nat), v = .ref t ∧ H' t = some (.tup [.int a, .int m]) ∧ p - 1 = 2 ^ a * m ∧ m % 2 = 1) (evp_call (by walk_at "ev") fun H3 e3 Q3 q3 => ⟨p - 1, ?_, by omega, by omega, fun t H4 a m hn hm e4 h4 => q3 _ H4 e4 ⟨t, a, m, rfl, h4, hn, hm⟩⟩) (fun v H3 ⟨t, a, m, hv, ht, _⟩ => ⟨t, _, _, hv, ht⟩) fun t x y H3 e3 hP h3 => ?_
        · show [V.int ((p : Int) - 1)] = [V.int ((p - 1 : Nat) : Int)]
          have : (p : Int) - 1 = ((p - 1 : Nat) : Int) := by omega
          rw [this]
        obtain ⟨_, a, m, et, ht, hn, hm⟩ := hP
        cases et
        rw [h3] at ht
        cases ht
        have hpo := NT.half hp p3
        have ha0 : a ≠ 0 := fun e => by
          rw [e, Nat.pow_zero, Nat.one_mul] at hn
          omega
        obtain ⟨k0, rfl⟩ : ∃ k0, a = k0 + 1 := ⟨a - 1, by omega⟩
        have hm1 : 0 < m := by omega
        have hk20 : k0 + 1 < 20 := by
          refine Nat.lt_of_not_le fun hh => ?_
          have h5 : 2 ^ 20 ≤ 2 ^ (k0 + 1) := Nat.pow_le_pow_right (by decide) hh
          have h6 : 2 ^ (k0 + 1) * 1 ≤ 2 ^ (k0 + 1) * m := Nat.mul_le_mul_left _ hm1
          have h7 : (2 : Nat) ^ 20 = 1048576 := by decide
          omega
        have pmod : ∀ z : Int, 0 ≤ z % (p : Int) ∧ z % (p : Int) < p := fun z => ⟨Int.emod_nonneg _ (by omega), Int.emod_lt_of_pos _ hpp⟩
        refine q_asg (v := .int (sq ^ (m / 2 + 1) % (p : Int))) (pw (ev_var rfl) (ev_is (ev_op (ev_op (ev_var rfl) ev_c (rv_I (cdiv_small (by decide) (by decide)))) ev_c rv_I0) (by congr 1 <;> omega)) (ev_var rfl)) fun H4 e4 => ?_
        refine q_asg (v := .int (sq ^ m % (p : Int))) (pw (ev_var rfl) (ev_var rfl) (ev_var rfl)) fun H5 e5 => ?_
        refine q_asgP (P := fun v _ => ∃ z : Nat, v = .int ((z : Int) ^ m % (p : Int)) ∧ 2 ≤ z ∧ z < p ∧ ¬ NT.Cg p ((z : Int) ^ ((p - 1) / 2)) 1) (evp_callP (R := fun vs _ => ∃ z : Nat, vs = [.int z, .int m, .int p] ∧ 2 ≤ z ∧ z < p ∧ ¬ NT.Cg p ((z : Int) ^ ((p - 1) / 2)) 1)
          (fun H6 e6 Q6 q6 => evp_call (P := fun v _ => ∃ z : Nat, v = .int z ∧ 2 ≤ z ∧ z < p ∧ ¬ NT.Cg p ((z : Int) ^ ((p - 1) / 2)) 1) (sp := spNoSquare) (dvs := []) (ea_cons (ev_var (i := 1) rfl) ea_nil) (fun H7 e7 Q7 q7 => ⟨p, rfl, hp, p3, p6, fun z z2 z1 hz H8 e8 => q7 _ H8 e8 ⟨z, rfl, z2, z1, hz⟩⟩) H6 e6 _ fun v H7 e7 ⟨z, ev, hz⟩ => by
            subst ev
            exact (ea_cons (ev_var (i := 3) rfl) (ea_cons (ev_var (i := 1) rfl) ea_nil)) H7 (e6.trans e7) _ fun H8 e8 => q6 _ H8 (e7.trans e8) ⟨z, rfl, hz⟩) fun vs H6 e6 ⟨z, evs, hz⟩ Q6 q6 => ⟨(z : Int), (m : Int), (p : Int), by rw [evs] <;> rfl, by omega, by omega, by omega, fun H7 e7 => q6 _ H7 e7 ⟨z, by rw [Int.toNat_natCast], hz⟩⟩) fun v H6 e6 hv => ?_
        obtain ⟨z, rfl, z2, z1, hz⟩ := hv
        have tst := NT.Ton.start hp p3 hn hm h1 hz (NT.not_dvd_small (by omega) (by omega))
        have b1 := pmod (sq ^ (m / 2 + 1))
        have b2 := pmod (sq ^ m)
        have b3 := pmod ((z : Int) ^ m)
        generalize sq ^ (m / 2 + 1) % (p : Int) = r at tst b1
        generalize sq ^ m % (p : Int) = x at tst b2
        generalize (z : Int) ^ m % (p : Int) = t0 at tst b3
        have e06 := (((e02.trans e3).trans e4).trans e5).trans e6
        refine q_forRev (n := k0) (ev_is (ev_op (ev_var rfl) ev_c rv_I0) (by congr 1; omega)) (by omega) (fun i σ' H' => ∃ (r x t : Int) (y7 : Option V), σ' = [some (.int sq), some (.int (p : Int)), some (.int ((k0 + 1 : Nat) : Int)), some (.int (m : Int)), some (.int r), some (.int x), some (.int t), y7] ∧ Ex H H' ∧ (0 ≤ r ∧ r < p) ∧ (0 ≤ x ∧ x < p) ∧ (0 ≤ t ∧ t < p) ∧ NT.Ton p sq r x t (k0 - i))
          (fun H7 e7 => ⟨r, x, t0, _, rfl, e06.trans e7, b1, b2, b3, tst⟩) ?_ ?_
        · rintro i σ' H7 hi ⟨r, x, t, y7, rfl, e7, b1, b2, b3, tn⟩
          obtain ⟨l, hl, hl2⟩ : ∃ l, k0 - i = l + 1 ∧ k0 - (i + 1) = l := ⟨k0 - i - 1, by omega, by omega⟩
          have hl3 : k0 - 1 - i = l := by omega
          rw [hl] at tn
          rw [hl2, hl3]
          have c1 : CMul r t := cmul_l (by omega) (by omega)
          have c2 : CMul x t := cmul_l (by omega) (by omega)
          have c3 : CMul (x * t) t := cmul_r (by omega) (by omega)
          have c4 : CMul t t := cmul_l (by omega) (by omega)
          refine q_when (et_test (ev_op (pw (e := 2 ^ l) (ev_var rfl) (ev_is (ev_op ev_c (ev_var rfl) (rv_I (cpow_c (by omega) (by omega) (by decide)))) (by rw [Int.toNat_natCast, Int.one_mul, Int.natCast_pow] <;> rfl)) (ev_var rfl)) ev_c (rv_ne rfl))) (fun hb3 H8 e8 => ?_) fun hb3 H8 e8 => ?_
          · have hx : ¬ NT.Cg p (x ^ 2 ^ l) 1 := fun h => by
              rw [(one_dec p3 _).mpr h] at hb3
              exact nomatch hb3
            refine q_asg (v := .int (r * t % (p : Int))) (ev_op (ev_op (ev_var rfl) (ev_var rfl) (rv_I c1)) (ev_var rfl) (rv_I hpp)) fun H9 e9 => ?_
            refine s_asg (v := .int (x * t * t % (p : Int))) (ev_op (ev_op (ev_op (ev_var rfl) (ev_var rfl) (rv_I c2)) (ev_var rfl) (rv_I c3)) (ev_var rfl) (rv_I hpp)) fun H10 e10 => ?_
            refine s_asg (v := .int (t * t % (p : Int))) (ev_op (ev_op (ev_var rfl) (ev_var rfl) (rv_I c4)) (ev_var rfl) (rv_I (C := fun _ j : Int => 0 < j) hpp)) fun H11 e11 => ?_
            exact ⟨_, _, _, _, rfl, (((e7.trans e8).trans e9).trans e10).trans e11, pmod _, pmod _, pmod _, tn.yes hp hx⟩
          · have hx : NT.Cg p (x ^ 2 ^ l) 1 := (one_dec p3 _).mp (by
              cases h : decide (V.int (x ^ 2 ^ l % (p : Int)) = V.int 1) with
              | true => rfl
              | false => rw [h] at hb3; exact nomatch hb3)
            refine s_asg (v := .int (t * t % (p : Int))) (ev_op (ev_op (ev_var rfl) (ev_var rfl) (rv_I c4)) (ev_var rfl) (rv_I (C := fun _ j : Int => 0 < j) hpp)) fun H11 e11 => ?_
            exact ⟨_, _, _, _, rfl, (e7.trans e8).trans e11, b1, b2, pmod _, tn.no hx⟩
        · rintro σ' H7 ⟨r, x, t, y7, rfl, e7, b1, b2, b3, tn⟩
          rw [Nat.sub_self] at tn
          exact s_ret (ev_var rfl) fun H8 e8 => k _ (.inl ⟨r, rfl, b1.1, b1.2, tn.done⟩) H8 (e7.trans e8)
end
end K7

namespace K7
open PySem PySem.Spec PyProof.Rows L2 Evl SX SM
local macro_rules | `(tactic| walk_at "cond") => `(tactic| first
  | assumption
  | exact cdiv_small (by decide) (by decide)
  | exact cmul_l (by decide) (by decide)
  | exact cmul_r (by decide) (by decide)
  | exact cpow_c (by decide) (by decide) (by decide)
  | (show (0 : Int) < _; decide)
  | (show (0 : Int) < _; omega))
local macro_rules | `(tactic| walk_at "ev") => `(tactic| first
  | with_reducible exact ev_c
  | ((with_reducible apply ev_var); exact rfl)
  | with_reducible exact ea_nil
  | with_reducible exact eo_none
  | ((with_reducible apply ea_cons) <;> walk_at "ev")
  | ((with_reducible apply eo_some); walk_at "ev")
  | ((with_reducible apply ev_op (hr := rv_I0)) <;> walk_at "ev")
  | ((with_reducible apply ev_op (hr := rv_I ?cnd)); (· walk_at "ev"); (· walk_at "ev"); (· walk_at "cond"))
  | ((with_reducible apply ev_un (hr := ru_neg)); walk_at "ev")
  | ((with_reducible apply ev_op (hr := rv_eq ?cnd)); (· walk_at "ev"); (· walk_at "ev"); (· exact rfl))
  | ((with_reducible apply ev_op (hr := rv_ne ?cnd)); (· walk_at "ev"); (· walk_at "ev"); (· exact rfl))
  | ((with_reducible apply ev_lenI); (· walk_at "ev"); (· assumption))
  | ((with_reducible apply ev_ixL); (· walk_at "ev"); (· walk_at "ev"); (· assumption); (· first | exact atI_nat (j := 0) rfl | exact atI_nat (j := 1) rfl | exact atI_nat (j := 2) rfl))
  | ((with_reducible apply et_test); walk_at "ev")
  | ((with_reducible apply et_B); walk_at "ev"))
local macro_rules | `(tactic| walk_at "tup") => `(tactic| first
  | ((with_reducible apply evp_T [_, _]); (· walk_at "ev"); (· exact rfl); (· show 2 ≤ 100000; decide))
  | ((with_reducible apply evp_T [_]); (· walk_at "ev"); (· exact rfl); (· show 1 ≤ 100000; decide))
  | ((with_reducible apply evp_T [_, _, _]); (· walk_at "ev"); (· exact rfl); (· show 3 ≤ 100000; decide))
  | ((with_reducible apply evp_T []); (· walk_at "ev"); (· exact rfl); (· show 0 ≤ 100000; decide)))
local macro_rules | `(tactic| walk_at "pairs") => `(tactic| first
  | with_reducible exact eal_nil
  | ((with_reducible apply eal_cons PairT.mono); (· ((with_reducible apply evp_pair) <;> walk_at "tup")); (· walk_at "pairs")))
abbrev s_rises : Stmt := topS 35
abbrev N_rises : List Str := ["numbers", "first", "second"]
theorem sc_rises : FnScope N_rises ["numbers"] (defScope s_rises) := ⟨rfl, rfl, rfl, by decide +kernel, rfl, by decide +kernel, by decide +kernel⟩
abbrev s_check_marks : Stmt := topS 36
abbrev N_check_marks : List Str := ["marks", "found"]
theorem sc_check_marks : FnScope N_check_marks ["marks"] (defScope s_check_marks) := ⟨rfl, rfl, rfl, by decide +kernel, rfl, by decide +kernel, by decide +kernel⟩
abbrev s_all_pairs : Stmt := topS 37
abbrev N_all_pairs : List Str := ["many", "first", "second"]
theorem sc_all_pairs : FnScope N_all_pairs ["many"] (defScope s_all_pairs) := ⟨rfl, rfl, rfl, by decide +kernel, rfl, by decide +kernel, by decide +kernel⟩
abbrev s_told : Stmt := topS 38
abbrev N_told : List Str := ["marks", "seen", "pair", "total"]
theorem sc_told : FnScope N_told ["marks"] (defScope s_told) := ⟨rfl, rfl, rfl, by decide +kernel, rfl, by decide +kernel, by decide +kernel⟩
section
variable {P : Program} {w : World} {K : PySem.W.Frag} {mg : Str → Option Value} {base : Heap}
theorem ev_yes {σ : L2.St} {H : Hp} : EvT tYes σ H true := fun H1 e Q q => q H1 (Ex.refl H1)
def spRises (K : PySem.W.Frag) : Sp := fun vs H Q _ => ∃ (a : Addr) (ns : List Int), vs = [.ref a] ∧ SqL K H a (ns.map V.int) ∧ ns.length ≤ 100 ∧ RetV (.bl (decide (ns.Pairwise (· < ·)))) H Q
theorem ok_rises {f : Addr} {fd : FuncData} (D : Dfn K mg "rises" "rises" s_rises ["numbers"] f fd) (T : Tx mg) : FnOk P w K mg base CX0 1 f fd ["numbers"] (spRises K) := by
  refine D.F.ok sc_rises (fun vs H Q E h => ?_) (fun cdv A outer s H vs Q E hr h => ?_)
  · obtain ⟨a, ns, rfl, _⟩ := h
    rfl
  · obtain ⟨a, ns, rfl, hS, hl, k⟩ := h
    refine ⟨_, (pss_one (ps_ret (pe_callB (cr_all rfl) (by rfl) T.b_all (by decide +kernel) (pa_cons (pe_lc (own := [("first", 1), ("second", 2)]) rfl sc_rises.nd (pi_zip (by rfl) T.b_zip (pa_cons (pv 0) (pa_cons (pe_slice sl_list (pv 0) (po_some pe_int) po_none) pa_nil))) (blkOk_by (N := N_rises) (sc := defScope s_rises) (by decide +kernel)) (fun _ _ _ _ _ => (SX.pg_tupK (K := K) (n := 2) rfl (pgs_cons (pg_name (i := 1) sc_rises.nd rfl (by first | exact Or.inl rfl | exact Or.inr rfl)) (pgs_cons (pg_name (i := 2) sc_rises.nd rfl (by first | exact Or.inl rfl | exact Or.inr rfl)) pgs_nil)))) (fun _ _ _ _ _ => pts_nil) (fun _ _ _ _ _ => (pe_cmpR op_lt (pv 1) (pv 2) (nomark _)))) pa_nil)))), ?_⟩
    have hlen : min (ns.map V.int).length ((ns.drop 1).map V.int).length = ns.length - 1 := by
      rw [List.length_map, List.length_map, List.length_drop]
      omega
    have hL := el_lcZ (K := K) (σ := start N_rises [.ref a]) (H := H) (te := tOp (rI0 fun i j => .bl (decide (i < j))) (tVar 1) (tVar 2)) (i0 := 1) (j0 := 2) (vs := [1, 2]) (fun i => .bl (decide (ns.getD i 0 < ns.getD (i + 1) 0))) (ev_var (i := 0) rfl) hS (el_cutDrop (k := 1) (ev_var (i := 0) rfl) (eo_some ev_c) hS) (by rw [List.length_map]; omega) (fun x y => rfl) (fun i x y H1 e1 hx hy => ?_)
    · rw [hlen, given_bl] at hL
      refine s_ret (ev_is (ev_allN hL) (congrArg V.bl (rise_adj ns))) fun H2 e2 => k H2 e2
    · obtain ⟨h1, hx⟩ := List.getElem?_eq_some_iff.mp hx
      obtain ⟨h2, hy⟩ := List.getElem?_eq_some_iff.mp hy
      rw [List.getElem_map] at hx hy
      rw [List.length_map] at h1 h2
      have e1 : ns.getD i 0 = ns[i] := by rw [List.getD_eq_getElem?_getD, List.getElem?_eq_getElem h1] <;> rfl
      have h2' : i + 1 < ns.length := by rw [List.length_drop] at h2; omega
      have e2 : ns.getD (i + 1) 0 = (ns.drop 1)[i] := by
        rw [List.getD_eq_getElem?_getD, List.getElem?_eq_getElem h2', List.getElem_drop]
        show ns[i + 1] = ns[1 + i]
        congr 1
        omega
      subst hx hy
      rw [e1, e2]
      exact ev_op (ev_var rfl) (ev_var rfl) rv_I0
/-! ### what are marks, what aren't -/
def GoodL (v : V) (H : Hp) (ns : List Int) : Prop := ∃ a, v = .ref a ∧ H a = some (.lst (ns.map V.int)) ∧ ns.length ≤ 40 ∧ ns.Pairwise (· < ·)
inductive BadL (v : V) (H : Hp) : Prop where
  | non (h : v = .non)
  | int (i : Int) (h : v = .int i)
  | str (s : Str) (h : v = .str s)
  | tup (p : Addr) (xs : List V) (h : v = .ref p) (q : H p = some (.tup xs))
  | dic (p : Addr) (xs : List (Key × V)) (h : v = .ref p) (q : H p = some (.dK xs))
  | long (p : Addr) (xs : List V) (h : v = .ref p) (q : H p = some (.lst xs)) (l : 40 < xs.length)
  | item (p : Addr) (xs : List V) (f : Nat → Bool) (h : v = .ref p) (q : H p = some (.lst xs)) (l : xs.length ≤ 40) (n : ∀ i x, xs[i]? = some x → NumV x H (f i)) (b : ((List.range xs.length).map f).all id = false)
  | fall (p : Addr) (ns : List Int) (h : v = .ref p) (q : H p = some (.lst (ns.map V.int))) (l : ns.length ≤ 40) (n : ¬ ns.Pairwise (· < ·))
theorem BadL.mono {v : V} {H H1 : Hp} (e1 : Ex H H1) (hb : BadL v H) : BadL v H1 := by
  cases hb with
  | non h => exact .non h
  | int i h => exact .int i h
  | str i h => exact .str i h
  | tup p xs h q => exact .tup p xs h (e1 _ _ q)
  | dic p xs h q => exact .dic p xs h (e1 _ _ q)
  | long p xs h q l => exact .long p xs h (e1 _ _ q) l
  | item p xs f h q l n b => exact .item p xs f h (e1 _ _ q) l (fun i x hx => (n i x hx).mono e1) b
  | fall p ns h q l n => exact .fall p ns h (e1 _ _ q) l n
def spCheck (C : Addr) : Sp := fun vs H Q E => ∃ v, vs = [v] ∧ ((∃ ns, GoodL v H ns ∧ RetV .non H Q) ∨ (BadL v H ∧ ∀ H1, Ex H H1 → E (.ref C) none H1))
theorem ok_check {f f1 f2 C : Addr} {fd fd1 fd2 : FuncData} {tMM : Tok} (D : Dfn K mg "check_marks" "check_marks" s_check_marks ["marks"] f fd) (T : Tx mg) (X_BadMarks : XC K mg "BadMarks" C) (g_MOST_MARKS : mg "MOST_MARKS" = some (.int 40 tMM)) (D_is_number : Dfn K mg "is_number" "is_number" s_is_number ["found"] f1 fd1)
    (D_rises : Dfn K mg "rises" "rises" s_rises ["numbers"] f2 fd2) : FnOk P w K mg base (L2N.CX P w) 2 f fd ["marks"] (spCheck C) := by
  have G_is_number : FnOk P w K mg base CX0 1 f1 fd1 ["found"] spNumber := ok_number D_is_number T
  have G_rises : FnOk P w K mg base CX0 1 f2 fd2 ["numbers"] (spRises K) := ok_rises D_rises T
  refine SX.okN D.F sc_check_marks (fun vs H Q E h => ?_) (fun cdv A outer s H vs Q E hr h => ?_)
  · obtain ⟨v, rfl, _⟩ := h
    rfl
  · obtain ⟨v, rfl, h⟩ := h
    refine ⟨_, (pss_cons (ps_if (PW.pt (pw_or (pt_not (pt_val (pe_callB call_isi (by rfl) T.b_isinstance (by decide +kernel) (pa_cons (pv 0) (pa_cons (pe_bltn (v := .ty "list") (by rfl) T.b_list (by decide +kernel) rfl) pa_nil))))) (pw_or1 (pt_cmpR op_gt (pe_callB call_len_seq (by rfl) T.b_len (by decide +kernel) (pa_cons (pv 0) pa_nil)) (pe_glob (v := .int 40) (by rfl) g_MOST_MARKS ⟨_, rfl⟩) (nomark _)))))
      (pss_one (L2N.ps_raise rfl (L2N.takes_of rfl rfl rfl rfl) (L2N.pmk_own PySem.F.excBase_ValueError X_BadMarks.x X_BadMarks.g X_BadMarks.k (raises_own X_BadMarks.b X_BadMarks.t) (by rfl))))
      pss_nil)
      (pss_cons (ps_if (pt_not (pt_val (pe_callB (cr_all rfl) (by rfl) T.b_all (by decide +kernel) (pa_cons (pe_lc (own := [("found", 1)]) (g := gName 1) rfl sc_check_marks.nd (pi_list (pv 0)) (blkOk_by (N := N_check_marks) (sc := defScope s_check_marks) (by decide +kernel)) (fun _ _ _ _ _ => (pg_name (i := 1) sc_check_marks.nd rfl (by first | exact Or.inl rfl | exact Or.inr rfl))) (fun _ _ _ _ _ => pts_nil) (fun _ _ _ _ _ => (pe_call G_is_number (hr.mono (by decide)) (by rfl) D_is_number.g D_is_number.F.kp D_is_number.b .nil pass0 (pa_cons (pv 1) pa_nil)))) pa_nil))))
      (pss_one (L2N.ps_raise rfl (L2N.takes_of rfl rfl rfl rfl) (L2N.pmk_own PySem.F.excBase_ValueError X_BadMarks.x X_BadMarks.g X_BadMarks.k (raises_own X_BadMarks.b X_BadMarks.t) (by rfl))))
      pss_nil)
      (pss_one (ps_if (pt_not (pt_val (pe_call G_rises (hr.mono (by decide)) (by rfl) D_rises.g D_rises.F.kp D_rises.b .nil pass0 (pa_cons (pv 0) pa_nil))))
      (pss_one (L2N.ps_raise rfl (L2N.takes_of rfl rfl rfl rfl) (L2N.pmk_own PySem.F.excBase_ValueError X_BadMarks.x X_BadMarks.g X_BadMarks.k (raises_own X_BadMarks.b X_BadMarks.t) (by rfl))))
      pss_nil)))), ?_⟩
    have lst1 : ∀ {p : Addr} {xs : List V} {n : String} {b : Bool}, H p = some (.lst xs) → kitB "list" n = some b → RC (rIsi K) [.ref p, .ty n] H (.bl b) := fun q hk => rc_isiAs (t := "list") (fun H1 e => .base (.lst (e _ _ q))) hk
    -- the second test
    have nums : ∀ (σ : L2.St) (H1 : Hp) (p : Addr) (xs : List V) (f : Nat → Bool), σ = [some (.ref p), none] → Ex H H1 → H p = some (.lst xs) → xs.length ≤ 40 → (∀ i x, xs[i]? = some x → NumV x H (f i)) →
        Ev (tCB (rAll K) (tCons (tLc (iList K (tVar 0)) (gName 1) tYes (tCall spNumber [] E0 (tCons (tVar 1) tNil)) [1]) tNil)) σ H1 (.bl (((List.range xs.length).map f).all id)) := by
      intro σ H1 p xs f hσ e1 q l n
      subst hσ
      have hL := el_lcL (K := K) (σ := [some (.ref p), none]) (H := H1) (t := tYes) (te := tCall spNumber [] E0 (tCons (tVar 1) tNil)) (tl := tVar 0) (j := 1) (vs := [1]) (fun _ => true) (fun i => .bl (f i)) (ev_var rfl) (sq_of (e1 p _ q)) (by omega) (fun x => rfl) (fun i x H2 e2 hi => ev_yes)
        (fun i x H2 e2 hi _ => ev_call (ea_cons (ev_var rfl) ea_nil) fun H3 e3 Q q E => ⟨x, f i, rfl, (n i x hi).mono ((e1.trans e2).trans e3), q⟩)
      rw [given_bl] at hL
      exact ev_allN hL
    have allnum : ∀ ns : List Int, ((List.range (ns.map V.int).length).map fun _ => true).all id = true := fun ns => by
      rw [List.all_eq_true]
      intro b hb
      obtain ⟨_, _, rfl⟩ := List.mem_map.mp hb
      rfl
    have isnum : ∀ ns : List Int, ∀ i (x : V), (ns.map V.int)[i]? = some x → NumV x H true := fun ns i x hx => by
      obtain ⟨h1, hx⟩ := List.getElem?_eq_some_iff.mp hx
      rw [List.getElem_map] at hx
      exact .inl ⟨_, hx.symm, rfl⟩
    rcases h with ⟨ns, ⟨a, rfl, hS, hl, hp⟩, k⟩ | ⟨hb, k⟩
    · refine q_when (et_or (a := false) (b := false) (et_not (a := true) (et_B (ev_cb (by walk_at "ev") (lst1 hS (by decide +kernel))))) fun _ => et_is (et_test (ev_op (ev_lenI (ev_var rfl) (sq_of hS)) ev_c rv_I0)) (decide_eq_false (by omega))) (fun h => nomatch h) fun _ H1 e1 => ?_
      refine q_when (b := false) (et_not (a := true) (et_B (ev_is (nums _ _ a _ (fun _ => true) rfl e1 hS (by rw [List.length_map]; exact hl) (isnum ns)) (congrArg V.bl (allnum ns))))) (fun h => nomatch h) fun _ H2 e2 => ?_
      refine s_when (b := false) (et_not (a := true) (et_B (ev_is (ev_call (by walk_at "ev") fun H3 e3 Q q E => ⟨a, ns, rfl, sq_of (((e1.trans e2).trans e3) a _ hS), by omega, q⟩) (congrArg V.bl (decide_eq_true hp))))) (fun h => nomatch h) fun _ H3 e3 => k H3 ((e1.trans e2).trans e3)
    · cases hb with
      | non h => subst h; exact q_when (et_or (a := true) (b := true) (et_not (a := false) (et_B (ev_cb (by walk_at "ev") (rc_isiAs (t := "NoneType") (fun H1 e => .base .non) (by decide +kernel))))) fun h => nomatch h) (fun _ H1 e1 => k H1 e1) fun h => nomatch h
      | int i h => subst h; exact q_when (et_or (a := true) (b := true) (et_not (a := false) (et_B (ev_cb (by walk_at "ev") (rc_isiInt (by decide +kernel))))) fun h => nomatch h) (fun _ H1 e1 => k H1 e1) fun h => nomatch h
      | str i h => subst h; exact q_when (et_or (a := true) (b := true) (et_not (a := false) (et_B (ev_cb (by walk_at "ev") (rc_isiAs (t := "str") (fun H1 e => .base (.str i)) (by decide +kernel))))) fun h => nomatch h) (fun _ H1 e1 => k H1 e1) fun h => nomatch h
      | tup p xs h q => subst h; exact q_when (et_or (a := true) (b := true) (et_not (a := false) (et_B (ev_cb (by walk_at "ev") (rc_isiTup q (by decide +kernel))))) fun h => nomatch h) (fun _ H1 e1 => k H1 e1) fun h => nomatch h
      | dic p xs h q => subst h; exact q_when (et_or (a := true) (b := true) (et_not (a := false) (et_B (ev_cb (by walk_at "ev") (rc_isiAs (t := "dict") (fun H1 e => .base (.dK (e _ _ q))) (by decide +kernel))))) fun h => nomatch h) (fun _ H1 e1 => k H1 e1) fun h => nomatch h
      | long p xs h q l =>
        subst h
        exact q_when (et_or (a := false) (b := true) (et_not (a := true) (et_B (ev_cb (by walk_at "ev") (lst1 q (by decide +kernel))))) fun _ => et_is (et_test (ev_op (ev_lenL (ev_var rfl) (sq_of q)) ev_c rv_I0)) (decide_eq_true (by omega))) (fun _ H1 e1 => k H1 e1) fun h => nomatch h
      | item p xs f h q l n b =>
        subst h
        refine q_when (et_or (a := false) (b := false) (et_not (a := true) (et_B (ev_cb (by walk_at "ev") (lst1 q (by decide +kernel))))) fun _ => et_is (et_test (ev_op (ev_lenL (ev_var rfl) (sq_of q)) ev_c rv_I0)) (decide_eq_false (by omega))) (fun h => nomatch h) fun _ H1 e1 => ?_
        exact q_when (b := true) (et_not (a := false) (et_B (ev_is (nums _ _ p xs f rfl e1 q l n) (congrArg V.bl b)))) (fun _ H2 e2 => k H2 (e1.trans e2)) fun h => nomatch h
      | fall p ns h q l n =>
        subst h
        refine q_when (et_or (a := false) (b := false) (et_not (a := true) (et_B (ev_cb (by walk_at "ev") (lst1 q (by decide +kernel))))) fun _ => et_is (et_test (ev_op (ev_lenI (ev_var rfl) (sq_of q)) ev_c rv_I0)) (decide_eq_false (by omega))) (fun h => nomatch h) fun _ H1 e1 => ?_
        refine q_when (b := false) (et_not (a := true) (et_B (ev_is (nums _ _ p _ (fun _ => true) rfl e1 q (by rw [List.length_map]; exact l) (isnum ns)) (congrArg V.bl (allnum ns))))) (fun h => nomatch h) fun _ H2 e2 => ?_
        exact s_when (b := true) (et_not (a := false) (et_B (ev_is (ev_call (by walk_at "ev") fun H3 e3 Q q2 E => ⟨p, ns, rfl, sq_of (((e1.trans e2).trans e3) p _ q), by omega, q2⟩) (congrArg V.bl (decide_eq_false n))))) (fun _ H3 e3 => k H3 ((e1.trans e2).trans e3)) fun h => nomatch h
/-! ### all pairs -/
def PairsAt (xs : List V) (ps : List (Nat × Nat)) (H : Hp) : Prop := xs.length = ps.length ∧ ∀ (i : Nat) (x : V) (p : Nat × Nat), xs[i]? = some x → ps[i]? = some p → ∃ q, x = .ref q ∧ H q = some (.tup ((pl p).map V.int))
theorem PairsAt.snoc {xs : List V} {ps : List (Nat × Nat)} {H : Hp} {q : Addr} {p : Nat × Nat} (h : PairsAt xs ps H) (hq : H q = some (.tup ((pl p).map V.int))) : PairsAt (xs ++ [.ref q]) (ps ++ [p]) H := by
  refine ⟨by rw [List.length_append, List.length_append, h.1] <;> rfl, fun i x r hx hr => ?_⟩
  by_cases hi : i < xs.length
  · rw [List.getElem?_append_left hi] at hx
    rw [List.getElem?_append_left (by rw [← h.1]; exact hi)] at hr
    exact h.2 i x r hx hr
  · rw [List.getElem?_append_right (by omega)] at hx
    rw [List.getElem?_append_right (by rw [← h.1]; omega), ← h.1] at hr
    obtain ⟨j, hj⟩ : ∃ j, i - xs.length = j := ⟨_, rfl⟩
    rw [hj] at hx hr
    match j, hx, hr with
    | 0, hx, hr =>
      cases hx
      cases hr
      exact ⟨q, rfl, hq⟩
    | j + 1, hx, hr => simp at hx
theorem PairsAt.keep {xs : List V} {ps : List (Nat × Nat)} {H H' : Hp} (h : PairsAt xs ps H) (k : ∀ b ys, H b = some (.tup ys) → H' b = some (.tup ys)) : PairsAt xs ps H' :=
  ⟨h.1, fun i x p hx hp => by
    obtain ⟨q, e, hq⟩ := h.2 i x p hx hp
    exact ⟨q, e, k _ _ hq⟩⟩
def spAllPairs : Sp := fun vs H Q _ => ∃ n : Nat, vs = [.int n] ∧ n ≤ 50 ∧ ∀ (p : Addr) (H2 : Hp) (xs : List V), H p = none → Ex H H2 → H2 p = some (.lst xs) → PairsAt xs (prs n) H2 → Q (.ref p) H2
theorem ok_allPairs {f : Addr} {fd : FuncData} (D : Dfn K mg "all_pairs" "all_pairs" s_all_pairs ["many"] f fd) (T : Tx mg) : FnOk P w K mg base CX0 1 f fd ["many"] spAllPairs := by
  refine D.F.ok sc_all_pairs (fun vs H Q E h => ?_) (fun cdv A outer s H vs Q E hr h => ?_)
  · obtain ⟨n, rfl, _⟩ := h
    rfl
  · obtain ⟨n, rfl, hn, k⟩ := h
    refine ⟨_, (pss_one (ps_ret (pe_lc2 (own := [("first", 1), ("second", 2)]) (vs1 := [2]) rfl sc_all_pairs.nd (pi_range1 (by rfl) T.b_range (pa_cons (pv 0) pa_nil)) (blkOk_by (N := N_all_pairs) (sc := defScope s_all_pairs) (by decide +kernel)) (by decide) (fun _ _ _ _ _ => (pg_name (i := 1) sc_all_pairs.nd rfl (by first | exact Or.inl rfl | exact Or.inr rfl))) (fun _ _ _ _ _ => pts_nil) (fun _ _ _ _ _ => (pi_range2 (by rfl) T.b_range (pa_cons (pv 1) (pa_cons (pv 0) pa_nil)))) (fun _ _ _ _ _ => (pg_name (i := 2) sc_all_pairs.nd rfl (by first | exact Or.inl rfl | exact Or.inr rfl))) (fun _ _ _ _ _ => pts_nil) (fun _ _ _ _ _ => (pe_tup (pa_cons (pv 1) (pa_cons (pv 2) pa_nil))))))), ?_⟩
    refine ⟨.int n, rfl, (n : Int), rfl, by omega, by omega, fun L hL => ?_⟩
    refine ⟨fun i c H' => c = n - i ∧ i ≤ n ∧ Ex H H' ∧ ∃ xs, H' L = some (.lst xs) ∧ PairsAt xs (prTo n i) H', ⟨_, rfl, Nat.zero_le _, Ex.new hL, [], upd_same, rfl, fun i x p hx => by simp at hx⟩, ?_⟩
    rintro i c H1 ⟨rfl, hi, e1, xs, h1, p1⟩
    have en : (n : Int).toNat = n := Int.toNat_natCast n
    by_cases hlt : i < n
    · refine .inr ⟨(show i < (n : Int).toNat by omega), fun H' => Ex H H' ∧ ∃ xs, H' L = some (.lst xs) ∧ PairsAt xs (prTo n (i + 1)) H', fun H' h' => ⟨_, by omega, rfl, hlt, h'.1, h'.2⟩, ?_⟩
      rintro x H2 ⟨rfl, rfl⟩
      refine ⟨rfl, tyes_if ?_⟩
      have e0 : (0 : Int) + (i : Int) = (i : Int) := Int.zero_add _
      rw [e0]
      refine ⟨.int (i : Int), rfl, .int n, rfl, (i : Int), (n : Int), rfl, ⟨by omega, by omega, by omega, by omega⟩, ?_⟩
      have en2 : ((n : Int) - (i : Int)).toNat = n - i := by omega
      rw [en2]
      refine ⟨fun j c H' => c = n - i - j ∧ j ≤ n - i ∧ Ex H H' ∧ ∃ xs, H' L = some (.lst xs) ∧ PairsAt xs (prTo n i ++ (List.range' i j).map fun j => (i, j)) H', ⟨_, rfl, Nat.zero_le _, e1, xs, h1, by simpa using p1⟩, ?_⟩
      rintro j c H3 ⟨rfl, hj, e3, ys, h3, p3⟩
      by_cases hjl : j < n - i
      · refine .inr ⟨hjl, fun H' => Ex H H' ∧ ∃ xs, H' L = some (.lst xs) ∧ PairsAt xs (prTo n i ++ (List.range' i (j + 1)).map fun j => (i, j)) H', fun H' h' => ⟨_, by omega, rfl, hjl, h'.1, h'.2⟩, ?_⟩
        rintro y H4 ⟨rfl, rfl⟩
        refine ⟨rfl, tyes_if ?_⟩
        refine ⟨.int (i : Int), rfl, .int ((i : Int) + (j : Int)), rfl, by show 2 ≤ sizeLine; decide, fun q hq => ?_⟩
        have hsz := prTo_le hi hn
        have nq : L ≠ q := ne_of_none h3 hq
        refine ⟨ys, by rw [upd_ne nq]; exact h3, ?_, ?_, ys ++ [.ref q], upd_same, ?_⟩
        · have := p3.1
          rw [List.length_append, List.length_map, List.length_range'] at this
          exact sz_lt (by omega)
        · exact Ex.mut (e3.trans (Ex.new hq)) hL
        · have e5 : (List.range' i (j + 1)).map (fun j => (i, j)) = (List.range' i j).map (fun j => (i, j)) ++ [(i, i + j)] := by
            rw [List.range'_concat, List.map_append]
            show _ ++ [(i, i + 1 * j)] = _
            rw [Nat.one_mul]
          rw [e5, ← List.append_assoc]
          refine PairsAt.snoc (p3.keep fun b zs hb => ?_) ?_
          · have n1 : b ≠ L := fun e => by rw [e, h3] at hb; cases hb
            rw [upd_ne n1, upd_ne (ne_of_none hb hq)]
            exact hb
          · rw [upd_ne nq.symm, upd_same]
            show some (HO.tup [V.int (i : Int), V.int ((i : Int) + (j : Int))]) = some (HO.tup [V.int (i : Int), V.int ((i + j : Nat) : Int)])
            rw [Int.natCast_add]
      · refine .inl ⟨(show n - i ≤ j by omega), e3, ys, h3, ?_⟩
        have e5 : j = n - i := by omega
        rw [prTo_next, ← e5]
        exact p3
    · have e : i = n := by omega
      subst e
      exact .inl ⟨(show (i : Int).toNat ≤ i by omega), k L H1 xs hL e1 h1 p1⟩
/-! ### told -/
def ToldV (C C2 : Addr) (ns : List Int) (v : V) (H : Hp) : Prop := (∃ q dx, v = .ref q ∧ H q = some (.ins C2 dx []) ∧ Apart ns) ∨
  ∃ q dx t1 t2 p1 p2, v = .ref q ∧ H q = some (.ins C dx (flds (.ref t1) (.ref t2))) ∧ H t1 = some (.tup ((pl p1).map V.int)) ∧ H t2 = some (.tup ((pl p2).map V.int)) ∧ tells2 ns (pl p1) (pl p2) = true
theorem ToldV.mono {C C2 : Addr} {ns : List Int} : Mono (ToldV C C2 ns) := fun v H H' e h => by
  rcases h with ⟨q, dx, h1, h2, h3⟩ | ⟨q, dx, t1, t2, p1, p2, h1, h2, h3, h4, h5⟩
  · exact .inl ⟨q, dx, h1, e _ _ h2, h3⟩
  · exact .inr ⟨q, dx, t1, t2, p1, p2, h1, e _ _ h2, e _ _ h3, e _ _ h4, h5⟩
def spTold (C C2 CB : Addr) : Sp := fun vs H Q E => ∃ v, vs = [v] ∧ ((∃ ns, GoodL v H ns ∧ ∀ v H2, Ex H H2 → ToldV C C2 ns v H2 → Q v H2) ∨ (BadL v H ∧ ∀ H1, Ex H H1 → E (.ref CB) none H1))
/-- what is seen so far -/
structure Seen (ns : List Int) (xs : List V) (i : Nat) (kvs : List (Key × V)) : Prop where
  len : kvs.length = i
  of : ∀ kv ∈ kvs, ∃ j p, j < i ∧ (prs ns.length)[j]? = some p ∧ xs[j]? = some kv.2 ∧ kv.1 = .inl (two ns p.1 p.2)
  has : ∀ j p, j < i → (prs ns.length)[j]? = some p → ∃ v, (Sum.inl (two ns p.1 p.2), v) ∈ kvs
  dis : ∀ j k, j < k → k < i → ∀ p q, (prs ns.length)[j]? = some p → (prs ns.length)[k]? = some q → two ns p.1 p.2 ≠ two ns q.1 q.2
theorem Seen.start {ns : List Int} {xs : List V} : Seen ns xs 0 [] := ⟨rfl, fun _ h => absurd h (by simp), fun _ _ h => absurd h (by omega), fun _ _ _ h => absurd h (by omega)⟩
theorem Seen.step {ns : List Int} {xs : List V} {i : Nat} {kvs : List (Key × V)} {p : Nat × Nat} {v : V} (h : Seen ns xs i kvs) (hp : (prs ns.length)[i]? = some p) (hv : xs[i]? = some v) (hn : valV kvs (.inl (two ns p.1 p.2)) = none) : Seen ns xs (i + 1) (putK kvs (.inl (two ns p.1 p.2)) v) := by
  rw [putK_new v hn]
  refine ⟨by rw [List.length_append, h.len] <;> rfl, fun kv hkv => ?_, fun j q hj hq => ?_, fun j k hjk hk q r hq hr => ?_⟩
  · rcases List.mem_append.mp hkv with h1 | h1
    · obtain ⟨j, q, h2, h3⟩ := h.of kv h1
      exact ⟨j, q, Nat.lt_succ_of_lt h2, h3⟩
    · rw [List.mem_singleton.mp h1]
      exact ⟨i, p, Nat.lt_succ_self i, hp, hv, rfl⟩
  · by_cases hji : j < i
    · obtain ⟨w, hw⟩ := h.has j q hji hq
      exact ⟨w, List.mem_append_left _ hw⟩
    · obtain rfl : j = i := by omega
      rw [hp] at hq
      cases hq
      exact ⟨v, List.mem_append_right _ (List.mem_singleton.mpr rfl)⟩
  · by_cases hki : k < i
    · exact h.dis j k hjk hki q r hq hr
    · obtain rfl : k = i := by omega
      rw [hp] at hr
      cases hr
      intro e
      obtain ⟨w, hw⟩ := h.has j q hjk hq
      rw [e] at hw
      exact val_none hn w hw
theorem ok_told {f f1 f2 f3 f4 f5 f6 C C2 CB : Addr} {fd fd1 fd2 fd3 fd4 fd5 fd6 : FuncData} {tMM : Tok} (D : Dfn K mg "told" "told" s_told ["marks"] f fd) (T : Tx mg) (TS : TSame K C) (Mk_Same : Mk K C f1) (g_Same : mg "Same" = some (.ref C)) (D_init : Fun K "__init__" "Same.__init__" s_Same___init__ f1 fd1) (b_Same_init : Binds K fd1 ["self", "one", "other"] [])
    (Mk_Apart : MkO K C2) (g_Apart : mg "Apart" = some (.ref C2)) (D_pair_sum : Dfn K mg "pair_sum" "pair_sum" s_pair_sum ["marks", "pair"] f2 fd2) (D_all_pairs : Dfn K mg "all_pairs" "all_pairs" s_all_pairs ["many"] f3 fd3) (D_check_marks : Dfn K mg "check_marks" "check_marks" s_check_marks ["marks"] f4 fd4)
    (X_BadMarks : XC K mg "BadMarks" CB) (g_MOST_MARKS : mg "MOST_MARKS" = some (.int 40 tMM)) (D_is_number : Dfn K mg "is_number" "is_number" s_is_number ["found"] f5 fd5) (D_rises : Dfn K mg "rises" "rises" s_rises ["numbers"] f6 fd6) :
    FnOk P w K mg base (L2N.CX P w) 3 f fd ["marks"] (spTold C C2 CB) := by
  have G_Same_init : FnOk P w K mg base CX0 1 f1 fd1 ["self", "one", "other"] (spInit C) := ok_init D_init TS
  have G_pair_sum : FnOk P w K mg base CX0 1 f2 fd2 ["marks", "pair"] (spSum K) := ok_sum D_pair_sum
  have G_all_pairs : FnOk P w K mg base CX0 1 f3 fd3 ["many"] spAllPairs := ok_allPairs D_all_pairs T
  have G_check_marks : FnOk P w K mg base (L2N.CX P w) 2 f4 fd4 ["marks"] (spCheck CB) := ok_check D_check_marks T X_BadMarks g_MOST_MARKS D_is_number D_rises
  refine SX.okN D.F sc_told (fun vs H Q E h => ?_) (fun cdv A outer s H vs Q E hr h => ?_)
  · obtain ⟨v, rfl, _⟩ := h
    rfl
  · obtain ⟨v, rfl, h⟩ := h
    refine ⟨_, (pss_cons (ps_expr (pe_callS G_check_marks (hr.mono (by decide)) (by rfl) D_check_marks.g D_check_marks.F.kp D_check_marks.b (fun σ => L2N.passAt (L2N.takes_of rfl rfl rfl rfl) σ) (pa_cons (pv 0) pa_nil)))
      (pss_cons (ps_set (i := 1) sc_told.nd rfl (by first | exact Or.inl rfl | exact Or.inr rfl) pe_dnewK)
      (pss_cons (ps_for (passes_of rfl) rfl (pi_list (pe_call G_all_pairs (hr.mono (by decide)) (by rfl) D_all_pairs.g D_all_pairs.F.kp D_all_pairs.b .nil pass0 (pa_cons (pe_callB call_len_seq (by rfl) T.b_len (by decide +kernel) (pa_cons (pv 0) pa_nil)) pa_nil))) (pg_name (i := 2) sc_told.nd rfl (by first | exact Or.inl rfl | exact Or.inr rfl))
      (pss_cons (ps_set (i := 3) sc_told.nd rfl (by first | exact Or.inl rfl | exact Or.inr rfl) (pe_call G_pair_sum (hr.mono (by decide)) (by rfl) D_pair_sum.g D_pair_sum.F.kp D_pair_sum.b .nil pass0 (pa_cons (pv 0) (pa_cons (pv 2) pa_nil))))
      (pss_cons (ps_if (pt_cmp (pc_din (hu_of hr) (pv 3) (pv 1)))
      (pss_one (ps_ret (pe_make Mk_Same G_Same_init (hr.mono (by decide)) (by rfl) g_Same b_Same_init .nil pass0 (pa_cons (pe_dget (hu_of hr) (pv 1) (pv 3) (fun _ _ => rfl)) (pa_cons (pv 2) pa_nil)))))
      pss_nil)
      (pss_one (ps_dput (hu_of hr) (pv 1) (pv 3) (pv 2) rfl)))))
      (pss_one (ps_ret (SX.pe_makeO Mk_Apart (by rfl) g_Apart)))))), ?_⟩
    refine q_callX (vs := [v]) (by walk_at "ev") fun H1 e1 => ⟨v, rfl, ?_⟩
    rcases h with ⟨ns, ⟨a, rfl, hS, hl, hp⟩, k⟩ | ⟨hb, k⟩
    · refine .inl ⟨ns, ⟨a, rfl, e1 a _ hS, hl, hp⟩, fun H2 e2 => ?_⟩
      refine q_asgD fun d hd => ?_
      have e3 : Ex H2 (upd H2 d (.dK [])) := Ex.new hd
      have h3 : (upd H2 d (.dK [])) d = some (.dK []) := upd_same
      generalize upd H2 d (.dK []) = H3 at e3 h3 ⊢
      have e03 := (e1.trans e2).trans e3
      have hd0 : H d = none := fresh_back (e1.trans e2) hd
      refine q_forP (P := fun v H1 => ∃ p xs, v = .ref p ∧ H1 p = some (.lst xs) ∧ PairsAt xs (prs ns.length) H1) (evp_call (ea_cons (ev_lenI (ev_var rfl) (sq_of (e03 a _ hS))) ea_nil) fun H4 e4 Q4 q4 => ⟨ns.length, rfl, by omega, fun p H5 xs hp e5 h5 p5 => q4 _ H5 e5 ⟨p, xs, rfl, h5, p5⟩⟩) fun v H4 e4 hv => ?_
      obtain ⟨p, xs, rfl, h4, p4⟩ := hv
      have h4d := e4 d _ h3
      have npd : p ≠ d := fun e => by rw [e, h4d] at h4; cases h4
      refine ⟨p, xs, fun i σ' H' => ∃ (kvs : List (Key × V)) (y2 y3 : Option V), σ' = [some (.ref a), some (.ref d), y2, y3] ∧ Ex H H' ∧ (∀ b o, b ≠ d → H4 b = some o → H' b = some o) ∧ H' d = some (.dK kvs) ∧ Seen ns xs i kvs,
        rfl, ⟨[], _, _, rfl, e03.trans e4, fun b o _ hb => hb, h4d, Seen.start⟩, fun i σ' H' _ ⟨_, _, _, _, _, kp, _⟩ => sq_of (kp p _ npd h4), ?_, ?_⟩
      · rintro i x σ' H5 hx ⟨kvs, y2, y3, rfl, e5, kp, h5, sn⟩
        have hi : i < xs.length := (List.getElem?_eq_some_iff.mp hx).1
        obtain ⟨pr, hpr⟩ : ∃ pr, (prs ns.length)[i]? = some pr := ⟨_, List.getElem?_eq_getElem (by rw [← p4.1]; exact hi)⟩
        obtain ⟨q, rfl, hq⟩ := p4.2 i x pr hx hpr
        have nqd : q ≠ d := fun e => by rw [e, h4d] at hq; cases hq
        have hq5 := kp q _ nqd hq
        have hmem := List.mem_of_getElem? hpr
        have hb := mem_prs (a := pr.1) (b := pr.2).mp hmem
        refine q_asg (v := .int (two ns pr.1 pr.2)) (ev_is (ev_call (by walk_at "ev") fun H6 e6 Q6 q6 E6 => ⟨a, q, ns, (pr.1 : Int), (pr.2 : Int), rfl, sq_of (e6 a _ (e5 a _ hS)), e6 q _ hq5, ⟨by omega, by omega, by omega, by omega⟩, q6⟩) (congrArg V.int (sumAt_pl ns pr))) fun H6 e6 => ?_
        have h6 := e6 d _ h5
        refine q_when (et_B (ev_din (ev_var rfl) (ev_var rfl) h6)) (fun hb2 H7 e7 => ?_) fun hb2 H7 e7 => ?_
        · cases hv : valV kvs (.inl (two ns pr.1 pr.2)) with
          | none => rw [hv] at hb2; exact nomatch hb2
          | some w =>
            obtain ⟨j, pj, hj, hpj, hxj, ek⟩ := sn.of _ (val_mem hv)
            obtain ⟨qj, ew, hqj⟩ := p4.2 j w pj hxj hpj
            subst ew
            have nqj : qj ≠ d := fun e => by rw [e, h4d] at hqj; cases hqj
            have es : two ns pj.1 pj.2 = two ns pr.1 pr.2 := by injection ek with ek; exact ek.symm
            have ht := tells_of (List.mem_of_getElem? hpj) hmem (prs_ne hpj hpr hj) es
            refine s_retP (evp_same (R := fun vs _ => vs = [.ref qj, .ref q]) (fun _ _ _ _ h => h) (eap_ea (ea_cons (ev_dget (ev_var rfl) (ev_var rfl) (e7 d _ h6) hv) (ea_cons (ev_var rfl) ea_nil)) fun _ _ => rfl) fun vs _ h => ⟨_, _, h⟩) fun v H8 e8 hv8 => ?_
            obtain ⟨z, dx, x1, y1, rfl, hz, hxy⟩ := hv8
            injection hxy with hx1 hxy
            injection hxy with hy1 hxy
            subst hx1 hy1
            have e58 := (e6.trans e7).trans e8
            exact k _ H8 (e5.trans e58) (.inr ⟨z, dx, qj, q, pj, pr, rfl, hz, e58 _ _ (kp qj _ nqj hqj), e58 _ _ hq5, ht⟩)
        · have hv : valV kvs (.inl (two ns pr.1 pr.2)) = none := by
            cases hv : valV kvs (.inl (two ns pr.1 pr.2)) with
            | none => rfl
            | some w => rw [hv] at hb2; exact nomatch hb2
          have hlen := prTo_le (Nat.le_refl ns.length) (by omega : ns.length ≤ 50)
          have e57 := e6.trans e7
          refine s_dput (e7 d _ h6) (ev_var rfl) (ev_var rfl) (ev_var rfl) (by have := sn.len; have := p4.1; unfold prs at this; omega) fun H8 e8 => ?_
          have e58 := e57.trans e8
          refine ⟨_, _, _, rfl, Ex.mut (e5.trans e58) hd0, fun b o hbd hb => by rw [upd_ne hbd]; exact e58 _ _ (kp b o hbd hb), upd_same, sn.step hpr hx hv⟩
      · rintro σ' H5 ⟨kvs, y2, y3, rfl, e5, kp, h5, sn⟩
        refine s_retP evp_makeO fun v H6 e6 hv => ?_
        obtain ⟨q, dx, rfl, hq⟩ := hv
        refine k _ H6 (e5.trans e6) (.inl ⟨q, dx, rfl, hq, apart_at fun i j hij p q hp hq => ?_⟩)
        exact sn.dis i j hij (by rw [p4.1]; exact (List.getElem?_eq_some_iff.mp hq).1) p q hp hq
    · exact .inr ⟨hb.mono e1, fun H2 e2 => k H2 (e1.trans e2)⟩
end
end K7

namespace K7
open PySem PySem.Spec PyProof.Rows L2 Evl SX
local macro_rules | `(tactic| walk_at "cond") => `(tactic| first
  | assumption
  | exact cdiv_small (by decide) (by decide)
  | exact cmul_l (by decide) (by decide)
  | exact cmul_r (by decide) (by decide)
  | exact cpow_c (by decide) (by decide) (by decide)
  | (show (0 : Int) < _; decide)
  | (show (0 : Int) < _; omega))
local macro_rules | `(tactic| walk_at "ev") => `(tactic| first
  | with_reducible exact ev_c
  | ((with_reducible apply ev_var); exact rfl)
  | with_reducible exact ea_nil
  | with_reducible exact eo_none
  | ((with_reducible apply ea_cons) <;> walk_at "ev")
  | ((with_reducible apply eo_some); walk_at "ev")
  | ((with_reducible apply ev_op (hr := rv_I0)) <;> walk_at "ev")
  | ((with_reducible apply ev_op (hr := rv_I ?cnd)); (· walk_at "ev"); (· walk_at "ev"); (· walk_at "cond"))
  | ((with_reducible apply ev_un (hr := ru_neg)); walk_at "ev")
  | ((with_reducible apply ev_op (hr := rv_eq ?cnd)); (· walk_at "ev"); (· walk_at "ev"); (· exact rfl))
  | ((with_reducible apply ev_op (hr := rv_ne ?cnd)); (· walk_at "ev"); (· walk_at "ev"); (· exact rfl))
  | ((with_reducible apply ev_lenI); (· walk_at "ev"); (· assumption))
  | ((with_reducible apply ev_ixL); (· walk_at "ev"); (· walk_at "ev"); (· assumption); (· first | exact atI_nat (j := 0) rfl | exact atI_nat (j := 1) rfl | exact atI_nat (j := 2) rfl))
  | ((with_reducible apply et_test); walk_at "ev")
  | ((with_reducible apply et_B); walk_at "ev"))
local macro_rules | `(tactic| walk_at "tup") => `(tactic| first
  | ((with_reducible apply evp_T [_, _]); (· walk_at "ev"); (· exact rfl); (· show 2 ≤ 100000; decide))
  | ((with_reducible apply evp_T [_]); (· walk_at "ev"); (· exact rfl); (· show 1 ≤ 100000; decide))
  | ((with_reducible apply evp_T [_, _, _]); (· walk_at "ev"); (· exact rfl); (· show 3 ≤ 100000; decide))
  | ((with_reducible apply evp_T []); (· walk_at "ev"); (· exact rfl); (· show 0 ≤ 100000; decide)))
local macro_rules | `(tactic| walk_at "pairs") => `(tactic| first
  | with_reducible exact eal_nil
  | ((with_reducible apply eal_cons PairT.mono); (· ((with_reducible apply evp_pair) <;> walk_at "tup")); (· walk_at "pairs")))
abbrev s_check_prime : Stmt := topS 19
abbrev N_check_prime : List Str := ["prime"]
theorem sc_check_prime : FnScope N_check_prime ["prime"] (defScope s_check_prime) := ⟨rfl, rfl, rfl, by decide +kernel, rfl, by decide +kernel, by decide +kernel⟩
abbrev s_check_number : Stmt := topS 20
abbrev N_check_number : List Str := ["number"]
theorem sc_check_number : FnScope N_check_number ["number"] (defScope s_check_number) := ⟨rfl, rfl, rfl, by decide +kernel, rfl, by decide +kernel, by decide +kernel⟩
abbrev s_place : Stmt := topS 21
abbrev N_place : List Str := ["prime", "number"]
theorem sc_place : FnScope N_place ["prime", "number"] (defScope s_place) := ⟨rfl, rfl, rfl, by decide +kernel, rfl, by decide +kernel, by decide +kernel⟩
abbrev s_mark : Stmt := topS 22
abbrev N_mark : List Str := ["prime", "number"]
theorem sc_mark : FnScope N_mark ["prime", "number"] (defScope s_mark) := ⟨rfl, rfl, rfl, by decide +kernel, rfl, by decide +kernel, by decide +kernel⟩
abbrev s_number_of : Stmt := topS 23
abbrev N_number_of : List Str := ["prime", "found", "number"]
theorem sc_number_of : FnScope N_number_of ["prime", "found"] (defScope s_number_of) := ⟨rfl, rfl, rfl, by decide +kernel, rfl, by decide +kernel, by decide +kernel⟩
abbrev s_two_of : Stmt := topS 24
abbrev N_two_of : List Str := ["prime", "total", "both", "gap", "low", "high"]
theorem sc_two_of : FnScope N_two_of ["prime", "total"] (defScope s_two_of) := ⟨rfl, rfl, rfl, by decide +kernel, rfl, by decide +kernel, by decide +kernel⟩
abbrev s_apart_by : Stmt := topS 25
abbrev N_apart_by : List Str := ["prime", "difference", "gap", "low", "high"]
theorem sc_apart_by : FnScope N_apart_by ["prime", "difference"] (defScope s_apart_by) := ⟨rfl, rfl, rfl, by decide +kernel, rfl, by decide +kernel, by decide +kernel⟩
section
variable {P : Program} {w : World} {K : PySem.W.Frag} {mg : Str → Option Value} {base : Heap}
/-! ### check_prime, check_number, place -/
def BadP (v : V) (H : Hp) : Prop := (∃ i, v = .int i ∧ ¬ NT.PrI i) ∨ NumV v H false
theorem BadP.mono {v : V} {H H' : Hp} (e : Ex H H') (h : BadP v H) : BadP v H' := h.imp id fun h => h.mono e
def spCheckPrime (CP : Addr) : Sp := fun vs H Q E => ∃ v, vs = [v] ∧ ((∃ i, v = .int i ∧ NT.PrI i ∧ RetV .non H Q) ∨ (BadP v H ∧ ∀ H1, Ex H H1 → E (.ref CP) none H1))
theorem ok_checkPrime {f f1 f2 CP : Addr} {fd fd1 fd2 : FuncData} {tGP : Tok} (D : Dfn K mg "check_prime" "check_prime" s_check_prime ["prime"] f fd) (T : Tx mg) (X_BadPrime : XC K mg "BadPrime" CP) (D_is_prime : Dfn K mg "is_prime" "is_prime" s_is_prime ["found"] f1 fd1) (g_GREATEST_PRIME : mg "GREATEST_PRIME" = some (.int 1000000 tGP)) (g_isqrt : mg "isqrt" = some (.builtin "math.isqrt")) (D_is_number : Dfn K mg "is_number" "is_number" s_is_number ["found"] f2 fd2) :
    FnOk P w K mg base (L2N.CX P w) 3 f fd ["prime"] (spCheckPrime CP) := by
  have G_is_prime : FnOk P w K mg base CX0 2 f1 fd1 ["found"] spIsPrime := ok_isPrime D_is_prime T g_GREATEST_PRIME g_isqrt D_is_number
  refine SX.okN D.F sc_check_prime (fun vs H Q E h => ?_) (fun cdv A outer s H vs Q E hr h => ?_)
  · obtain ⟨v, rfl, _⟩ := h
    rfl
  · obtain ⟨v, rfl, h⟩ := h
    refine ⟨_, (pss_one (ps_if (pt_not (pt_val (pe_call G_is_prime (hr.mono (by decide)) (by rfl) D_is_prime.g D_is_prime.F.kp D_is_prime.b .nil pass0 (pa_cons (pv 0) pa_nil))))
      (pss_one (L2N.ps_raise rfl (L2N.takes_of rfl rfl rfl rfl) (L2N.pmk_own PySem.F.excBase_ValueError X_BadPrime.x X_BadPrime.g X_BadPrime.k (raises_own X_BadPrime.b X_BadPrime.t) (by rfl))))
      pss_nil)), ?_⟩
    rcases h with ⟨i, rfl, hp, k⟩ | ⟨⟨i, rfl, hp⟩ | hn, k⟩
    · exact s_when (b := false) (et_not (a := true) (et_B (ev_call (by walk_at "ev") fun H1 e1 Q1 q1 E1 => ⟨_, rfl, .inl ⟨i, rfl, fun b hb => by
        rw [hb.mpr hp]
        exact q1⟩⟩))) (fun h => nomatch h) fun _ H1 e1 => k H1 e1
    · refine s_when (b := true) (et_not (a := false) (et_B (ev_call (by walk_at "ev") fun H1 e1 Q1 q1 E1 => ⟨_, rfl, .inl ⟨i, rfl, fun b hb => ?_⟩⟩))) (fun _ H1 e1 => k H1 e1) fun h => nomatch h
      cases b with
      | true => exact absurd (hb.mp rfl) hp
      | false => exact q1
    · exact s_when (b := true) (et_not (a := false) (et_B (ev_call (by walk_at "ev") fun H1 e1 Q1 q1 E1 => ⟨_, rfl, .inr ⟨hn.mono e1, q1⟩⟩))) (fun _ H1 e1 => k H1 e1) fun h => nomatch h
def spPlace : Sp := fun vs H Q _ => ∃ p n : Int, vs = [.int p, .int n] ∧ 0 < p ∧ p ≤ 1000000 ∧ 0 ≤ n ∧ n ≤ 10000000 ∧ RetV (.int (NT.place p n)) H Q
theorem ok_place {f : Addr} {fd : FuncData} (D : Dfn K mg "place" "place" s_place ["prime", "number"] f fd) : FnOk P w K mg base CX0 1 f fd ["prime", "number"] spPlace := by
  refine D.F.ok sc_place (fun vs H Q E h => ?_) (fun cdv A outer s H vs Q E hr h => ?_)
  · obtain ⟨p, n, rfl, _⟩ := h
    rfl
  · obtain ⟨p, n, rfl, p0, p6, n0, n7, k⟩ := h
    refine ⟨_, (pss_one (ps_ret (pe_op op_add (pe_op op_mul (pe_op op_mul pe_int (pv 0)) (pv 1)) (pe_op op_mod (pe_op op_mul (pv 1) (pv 1)) (pv 0))))), ?_⟩
    have c1 : CMul (2 : Int) p := cmul_l (by decide) (by decide)
    have c2 : CMul (2 * p) n := cmul_l (by omega) (by omega)
    have c3 : CMul n n := cmul_l (by omega) (by omega)
    exact s_ret (v := .int (NT.place p n)) (ev_op (ev_op (ev_op ev_c (ev_var rfl) (rv_I c1)) (ev_var rfl) (rv_I c2)) (ev_op (ev_op (ev_var rfl) (ev_var rfl) (rv_I c3)) (ev_var rfl) (rv_I (C := fun _ j : Int => 0 < j) p0)) rv_I0) fun H1 e1 => k H1 e1
def spCheckNumber (CU : Addr) : Sp := fun vs H Q E => ∃ v, vs = [v] ∧ ((∃ i, v = .int i ∧ RetV .non H Q) ∨ (NumV v H false ∧ ∀ H1, Ex H H1 → E (.ref CU) none H1))
theorem ok_checkNumber {f f1 CU : Addr} {fd fd1 : FuncData} (D : Dfn K mg "check_number" "check_number" s_check_number ["number"] f fd) (T : Tx mg) (X_BadNumber : XC K mg "BadNumber" CU) (D_is_number : Dfn K mg "is_number" "is_number" s_is_number ["found"] f1 fd1) :
    FnOk P w K mg base (L2N.CX P w) 2 f fd ["number"] (spCheckNumber CU) := by
  have G_is_number : FnOk P w K mg base CX0 1 f1 fd1 ["found"] spNumber := ok_number D_is_number T
  refine SX.okN D.F sc_check_number (fun vs H Q E h => ?_) (fun cdv A outer s H vs Q E hr h => ?_)
  · obtain ⟨v, rfl, _⟩ := h
    rfl
  · obtain ⟨v, rfl, h⟩ := h
    refine ⟨_, (pss_one (ps_if (pt_not (pt_val (pe_call G_is_number (hr.mono (by decide)) (by rfl) D_is_number.g D_is_number.F.kp D_is_number.b .nil pass0 (pa_cons (pv 0) pa_nil))))
      (pss_one (L2N.ps_raise rfl (L2N.takes_of rfl rfl rfl rfl) (L2N.pmk_own PySem.F.excBase_ValueError X_BadNumber.x X_BadNumber.g X_BadNumber.k (raises_own X_BadNumber.b X_BadNumber.t) (by rfl))))
      pss_nil)), ?_⟩
    rcases h with ⟨i, rfl, k⟩ | ⟨hn, k⟩
    · exact s_when (b := false) (et_not (a := true) (et_B (ev_call (by walk_at "ev") fun H1 e1 Q1 q1 E1 => ⟨_, true, rfl, .inl ⟨i, rfl, rfl⟩, q1⟩))) (fun h => nomatch h) fun _ H1 e1 => k H1 e1
    · exact s_when (b := true) (et_not (a := false) (et_B (ev_call (by walk_at "ev") fun H1 e1 Q1 q1 E1 => ⟨_, false, rfl, hn.mono e1, q1⟩))) (fun _ H1 e1 => k H1 e1) fun h => nomatch h
/-! ### mark, number_of -/
def BadN (p : Int) (v : V) (H : Hp) : Prop := (∃ i, v = .int i ∧ ¬ (0 ≤ i ∧ i < p)) ∨ NumV v H false
theorem BadN.mono {p : Int} {v : V} {H H' : Hp} (e : Ex H H') (h : BadN p v H) : BadN p v H' := h.imp id fun h => h.mono e
def spMark (CP CU : Addr) : Sp := fun vs H Q E => ∃ pz nv, vs = [pz, nv] ∧ ((∃ p n : Int, pz = .int p ∧ NT.PrI p ∧ nv = .int n ∧ 0 ≤ n ∧ n < p ∧ RetV (.int (NT.place p n)) H Q) ∨ (BadP pz H ∧ ∀ H1, Ex H H1 → E (.ref CP) none H1) ∨ (∃ p : Int, pz = .int p ∧ NT.PrI p ∧ BadN p nv H ∧ ∀ H1, Ex H H1 → E (.ref CU) none H1))
theorem ok_mark {f f1 f2 f3 f4 f5 CP CU : Addr} {fd fd1 fd2 fd3 fd4 fd5 : FuncData} {tGP : Tok} (D : Dfn K mg "mark" "mark" s_mark ["prime", "number"] f fd) (T : Tx mg) (X_BadPrime : XC K mg "BadPrime" CP) (X_BadNumber : XC K mg "BadNumber" CU) (D_check_prime : Dfn K mg "check_prime" "check_prime" s_check_prime ["prime"] f1 fd1) (D_is_count : Dfn K mg "is_count" "is_count" s_is_count ["found", "many"] f2 fd2)
    (D_place : Dfn K mg "place" "place" s_place ["prime", "number"] f3 fd3) (D_is_prime : Dfn K mg "is_prime" "is_prime" s_is_prime ["found"] f4 fd4) (g_GREATEST_PRIME : mg "GREATEST_PRIME" = some (.int 1000000 tGP)) (g_isqrt : mg "isqrt" = some (.builtin "math.isqrt")) (D_is_number : Dfn K mg "is_number" "is_number" s_is_number ["found"] f5 fd5) :
    FnOk P w K mg base (L2N.CX P w) 4 f fd ["prime", "number"] (spMark CP CU) := by
  have G_check_prime : FnOk P w K mg base (L2N.CX P w) 3 f1 fd1 ["prime"] (spCheckPrime CP) := ok_checkPrime D_check_prime T X_BadPrime D_is_prime g_GREATEST_PRIME g_isqrt D_is_number
  have G_is_count : FnOk P w K mg base CX0 2 f2 fd2 ["found", "many"] spCount := ok_count D_is_count T D_is_number
  have G_place : FnOk P w K mg base CX0 1 f3 fd3 ["prime", "number"] spPlace := ok_place D_place
  refine SX.okN D.F sc_mark (fun vs H Q E h => ?_) (fun cdv A outer s H vs Q E hr h => ?_)
  · obtain ⟨pz, nv, rfl, _⟩ := h
    rfl
  · obtain ⟨pz, nv, rfl, h⟩ := h
    refine ⟨_, (pss_cons (ps_expr (pe_callS G_check_prime (hr.mono (by decide)) (by rfl) D_check_prime.g D_check_prime.F.kp D_check_prime.b (fun σ => L2N.passAt (L2N.takes_of rfl rfl rfl rfl) σ) (pa_cons (pv 0) pa_nil)))
      (pss_cons (ps_if (pt_not (pt_val (pe_call G_is_count (hr.mono (by decide)) (by rfl) D_is_count.g D_is_count.F.kp D_is_count.b .nil pass0 (pa_cons (pv 1) (pa_cons (pv 0) pa_nil)))))
      (pss_one (L2N.ps_raise rfl (L2N.takes_of rfl rfl rfl rfl) (L2N.pmk_own PySem.F.excBase_ValueError X_BadNumber.x X_BadNumber.g X_BadNumber.k (raises_own X_BadNumber.b X_BadNumber.t) (by rfl))))
      pss_nil)
      (pss_one (ps_ret (pe_call G_place (hr.mono (by decide)) (by rfl) D_place.g D_place.F.kp D_place.b .nil pass0 (pa_cons (pv 0) (pa_cons (pv 1) pa_nil))))))), ?_⟩
    refine q_callX (vs := [pz]) (by walk_at "ev") fun H1 e1 => ⟨pz, rfl, ?_⟩
    rcases h with ⟨p, n, rfl, hp, rfl, n0, n1, k⟩ | ⟨hb, k⟩ | ⟨p, rfl, hp, hb, k⟩
    · refine .inl ⟨p, rfl, hp, fun H2 e2 => ?_⟩
      have p3 := hp.1
      have p6 := hp.2.1
      refine q_when (b := false) (et_is (et_not (et_B (ev_call (by walk_at "ev") fun H3 e3 Q3 q3 E3 => spCount.int q3))) (by rw [decide_eq_true n0, decide_eq_true n1] <;> rfl)) (fun h => nomatch h) fun _ H3 e3 => ?_
      exact s_ret (ev_call (by walk_at "ev") fun H4 e4 Q4 q4 E4 => ⟨p, n, rfl, by omega, p6, n0, by omega, q4⟩) fun H4 e4 => k H4 (((e1.trans e2).trans e3).trans e4)
    · exact .inr ⟨hb.mono e1, fun H2 e2 => k H2 (e1.trans e2)⟩
    · refine .inl ⟨p, rfl, hp, fun H2 e2 => ?_⟩
      refine q_when (b := true) (et_not (a := false) (et_B (ev_call (by walk_at "ev") fun H3 e3 Q3 q3 E3 => ?_))) (fun _ H3 e3 => k H3 ((e1.trans e2).trans e3)) fun h => nomatch h
      rcases hb with ⟨i, rfl, hi⟩ | hn
      · refine spCount.int ?_
        have e : (decide (0 ≤ i) && decide (i < p)) = false := by
          cases h1 : decide (0 ≤ i) && decide (i < p) with
          | false => rfl
          | true =>
            have := Bool.and_eq_true_iff.mp h1
            exact absurd ⟨of_decide_eq_true this.1, of_decide_eq_true this.2⟩ hi
        rw [e]
        exact q3
      · refine ⟨nv, false, p, rfl, hn.mono ((e1.trans e2).trans e3), fun i hi => ?_, fun _ => q3⟩
        rcases hn with ⟨_, _, h⟩ | ⟨_, h⟩
        · exact nomatch h
        · subst hi
          rcases h with h | ⟨_, h⟩ | ⟨_, h⟩ | ⟨_, _, h, _⟩ | ⟨_, _, h, _⟩ | ⟨_, _, h, _⟩ <;> exact nomatch h
def NoMk (p t : Int) : Prop := ∀ n, 0 ≤ n → n < p → NT.place p n ≠ t
theorem place_div {p n : Int} (hp : 0 < p) : NT.place p n / (2 * p) = n := by
  have h := NT.place_bounds hp n
  exact NT.ediv_of (r := NT.place p n - 2 * p * n) (by omega) (by omega) (by omega) (by omega)
def spNumberOf (CP CU CK : Addr) : Sp := fun vs H Q E => ∃ pz tv, vs = [pz, tv] ∧ ((∃ p n : Int, pz = .int p ∧ NT.PrI p ∧ 0 ≤ n ∧ n < p ∧ tv = .int (NT.place p n) ∧ RetV (.int n) H Q) ∨ (BadP pz H ∧ ∀ H1, Ex H H1 → E (.ref CP) none H1) ∨ (∃ p : Int, pz = .int p ∧ NT.PrI p ∧ NumV tv H false ∧ ∀ H1, Ex H H1 → E (.ref CU) none H1) ∨
  (∃ p t : Int, pz = .int p ∧ NT.PrI p ∧ tv = .int t ∧ NoMk p t ∧ ∀ H1, Ex H H1 → E (.ref CK) none H1))
theorem ok_numberOf {f f1 f2 f3 f4 f5 f6 CP CU CK : Addr} {fd fd1 fd2 fd3 fd4 fd5 fd6 : FuncData} {tGP : Tok} (D : Dfn K mg "number_of" "number_of" s_number_of ["prime", "found"] f fd) (T : Tx mg) (X_BadPrime : XC K mg "BadPrime" CP) (X_BadNumber : XC K mg "BadNumber" CU) (X_NoMark : XC K mg "NoMark" CK) (D_check_prime : Dfn K mg "check_prime" "check_prime" s_check_prime ["prime"] f1 fd1) (D_check_number : Dfn K mg "check_number" "check_number" s_check_number ["number"] f6 fd6) (D_is_count : Dfn K mg "is_count" "is_count" s_is_count ["found", "many"] f2 fd2)
    (D_place : Dfn K mg "place" "place" s_place ["prime", "number"] f3 fd3) (D_is_prime : Dfn K mg "is_prime" "is_prime" s_is_prime ["found"] f4 fd4) (g_GREATEST_PRIME : mg "GREATEST_PRIME" = some (.int 1000000 tGP)) (g_isqrt : mg "isqrt" = some (.builtin "math.isqrt")) (D_is_number : Dfn K mg "is_number" "is_number" s_is_number ["found"] f5 fd5) :
    FnOk P w K mg base (L2N.CX P w) 4 f fd ["prime", "found"] (spNumberOf CP CU CK) := by
  have G_check_prime : FnOk P w K mg base (L2N.CX P w) 3 f1 fd1 ["prime"] (spCheckPrime CP) := ok_checkPrime D_check_prime T X_BadPrime D_is_prime g_GREATEST_PRIME g_isqrt D_is_number
  have G_check_number : FnOk P w K mg base (L2N.CX P w) 2 f6 fd6 ["number"] (spCheckNumber CU) := ok_checkNumber D_check_number T X_BadNumber D_is_number
  have G_is_count : FnOk P w K mg base CX0 2 f2 fd2 ["found", "many"] spCount := ok_count D_is_count T D_is_number
  have G_place : FnOk P w K mg base CX0 1 f3 fd3 ["prime", "number"] spPlace := ok_place D_place
  refine SX.okN D.F sc_number_of (fun vs H Q E h => ?_) (fun cdv A outer s H vs Q E hr h => ?_)
  · obtain ⟨pz, nv, rfl, _⟩ := h
    rfl
  · obtain ⟨pz, tv, rfl, h⟩ := h
    refine ⟨_, (pss_cons (ps_expr (pe_callS G_check_prime (hr.mono (by decide)) (by rfl) D_check_prime.g D_check_prime.F.kp D_check_prime.b (fun σ => L2N.passAt (L2N.takes_of rfl rfl rfl rfl) σ) (pa_cons (pv 0) pa_nil)))
      (pss_cons (ps_expr (pe_callS G_check_number (hr.mono (by decide)) (by rfl) D_check_number.g D_check_number.F.kp D_check_number.b (fun σ => L2N.passAt (L2N.takes_of rfl rfl rfl rfl) σ) (pa_cons (pv 1) pa_nil)))
      (pss_cons (ps_set (i := 2) sc_number_of.nd rfl (by first | exact Or.inl rfl | exact Or.inr rfl) (pe_op op_fdivW (pv 1) (pe_op op_mul pe_int (pv 0))))
      (pss_cons (ps_if (PW.pt (pw_or (pt_not (pt_val (pe_call G_is_count (hr.mono (by decide)) (by rfl) D_is_count.g D_is_count.F.kp D_is_count.b .nil pass0 (pa_cons (pv 2) (pa_cons (pv 0) pa_nil))))) (pw_or1 (pt_cmpR op_ne (pe_call G_place (hr.mono (by decide)) (by rfl) D_place.g D_place.F.kp D_place.b .nil pass0 (pa_cons (pv 0) (pa_cons (pv 2) pa_nil))) (pv 1) (nomark _)))))
      (pss_one (L2N.ps_raise rfl (L2N.takes_of rfl rfl rfl rfl) (L2N.pmk_own PySem.F.excBase_ValueError X_NoMark.x X_NoMark.g X_NoMark.k (raises_own X_NoMark.b X_NoMark.t) (by rfl))))
      pss_nil)
      (pss_one (ps_ret (pv 2))))))), ?_⟩
    refine q_callX (vs := [pz]) (by walk_at "ev") fun H1 e1 => ⟨pz, rfl, ?_⟩
    rcases h with ⟨p, n, rfl, hp, n0, n1, rfl, k⟩ | ⟨hb, k⟩ | ⟨p, rfl, hp, hb, k⟩ | ⟨p, t, rfl, hp, rfl, hno, k⟩
    · refine .inl ⟨p, rfl, hp, fun H2 e2 => ?_⟩
      have p3 := hp.1
      have p6 := hp.2.1
      have c1 : CMul (2 : Int) p := cmul_l (by decide) (by decide)
      refine q_callX (by walk_at "ev") fun H3 e3 => ⟨_, rfl, .inl ⟨_, rfl, fun H4 e4 => ?_⟩⟩
      refine q_asg (v := .int n) (ev_is (ev_op (ev_var rfl) (ev_op ev_c (ev_var rfl) (rv_I c1)) (rv_I (cdiv_small (by omega) (by omega)))) (congrArg V.int (place_div (by omega)))) fun H5 e5 => ?_
      refine q_when (b := false) (et_is (et_or (b := false) (et_not (et_B (ev_call (by walk_at "ev") fun H3 e3 Q3 q3 E3 => spCount.int q3))) fun _ => et_is (et_test (ev_op (ev_call (by walk_at "ev") fun H4 e4 Q4 q4 E4 => ⟨p, n, rfl, by omega, p6, n0, by omega, q4⟩) (ev_var rfl) (rv_ne rfl))) (by rw [dec_self] <;> rfl)) (by rw [decide_eq_true n0, decide_eq_true n1] <;> rfl)) (fun h => nomatch h) fun _ H6 e6 => ?_
      exact s_ret (ev_var rfl) fun H7 e7 => k H7 ((((((e1.trans e2).trans e3).trans e4).trans e5).trans e6).trans e7)
    · exact .inr ⟨hb.mono e1, fun H2 e2 => k H2 (e1.trans e2)⟩
    · refine .inl ⟨p, rfl, hp, fun H2 e2 => ?_⟩
      exact q_callX (by walk_at "ev") fun H3 e3 => ⟨_, rfl, .inr ⟨hb.mono ((e1.trans e2).trans e3), fun H4 e4 => k H4 (((e1.trans e2).trans e3).trans e4)⟩⟩
    · refine .inl ⟨p, rfl, hp, fun H2 e2 => ?_⟩
      have p3 := hp.1
      have p6 := hp.2.1
      have c1 : CMul (2 : Int) p := cmul_l (by decide) (by decide)
      refine q_callX (by walk_at "ev") fun H3 e3 => ⟨_, rfl, .inl ⟨_, rfl, fun H4 e4 => ?_⟩⟩
      refine q_asg (v := .int (t / (2 * p))) (ev_op (ev_var rfl) (ev_op ev_c (ev_var rfl) (rv_I c1)) (rv_I (cdiv_small (by omega) (by omega)))) fun H5 e5 => ?_
      generalize t / (2 * p) = n
      have e05 := (((e1.trans e2).trans e3).trans e4).trans e5
      by_cases hn : 0 ≤ n ∧ n < p
      · refine q_when (b := true) (et_is (et_or (et_not (et_B (ev_call (by walk_at "ev") fun H3 e3 Q3 q3 E3 => spCount.int q3))) fun _ => et_test (ev_op (ev_call (by walk_at "ev") fun H4 e4 Q4 q4 E4 => ⟨p, n, rfl, by omega, p6, hn.1, by omega, q4⟩) (ev_var rfl) (rv_ne rfl))) ?_) (fun _ H6 e6 => k H6 (e05.trans e6)) fun h => nomatch h
        have : decide (V.int (NT.place p n) = V.int t) = false := decide_eq_false fun e => hno n hn.1 hn.2 (by injection e)
        rw [this, Bool.not_false, Bool.or_true]
      · refine q_when (b := true) (et_is (et_or (b := true) (et_not (et_B (ev_call (by walk_at "ev") fun H3 e3 Q3 q3 E3 => spCount.int q3))) fun hh => ?_) ?_) (fun _ H6 e6 => k H6 (e05.trans e6)) fun h => nomatch h
        · have : (decide (0 ≤ n) && decide (n < p)) = true := by
            cases h1 : decide (0 ≤ n) && decide (n < p) with
            | true => rfl
            | false => rw [h1] at hh; exact nomatch hh
          have := Bool.and_eq_true_iff.mp this
          exact absurd ⟨of_decide_eq_true this.1, of_decide_eq_true this.2⟩ hn
        · rw [Bool.or_true]
/-! ### two_of -/
def TwoV (p t : Int) (v : V) (H : Hp) : Prop := (∃ q a b, v = .ref q ∧ H q = some (.tup ([a, b].map V.int)) ∧ NT.Two p t a b) ∨ (v = .non ∧ NT.NoTwo p t)
theorem TwoV.mono {p t : Int} : Mono (TwoV p t) := fun _ _ _ e h => h.imp (fun ⟨q, a, b, h1, h2, h3⟩ => ⟨q, a, b, h1, e _ _ h2, h3⟩) id
def spTwo (CP CU : Addr) : Sp := fun vs H Q E => ∃ pz tv, vs = [pz, tv] ∧ ((∃ p t : Int, pz = .int p ∧ NT.PrI p ∧ tv = .int t ∧ ∀ v H2, Ex H H2 → TwoV p t v H2 → Q v H2) ∨ (BadP pz H ∧ ∀ H1, Ex H H1 → E (.ref CP) none H1) ∨ (∃ p : Int, pz = .int p ∧ NT.PrI p ∧ NumV tv H false ∧ ∀ H1, Ex H H1 → E (.ref CU) none H1))
theorem ok_twoOf {f f1 f2 f3 f4 f5 f6 f7 f8 f9 CP CU : Addr} {fd fd1 fd2 fd3 fd4 fd5 fd6 fd7 fd8 fd9 : FuncData} {tGP : Tok} (D : Dfn K mg "two_of" "two_of" s_two_of ["prime", "total"] f fd) (T : Tx mg) (X_BadPrime : XC K mg "BadPrime" CP) (X_BadNumber : XC K mg "BadNumber" CU) (D_check_prime : Dfn K mg "check_prime" "check_prime" s_check_prime ["prime"] f1 fd1) (D_check_number : Dfn K mg "check_number" "check_number" s_check_number ["number"] f6 fd6) (D_root : Dfn K mg "root" "root" s_root ["square", "prime"] f2 fd2)
    (D_place : Dfn K mg "place" "place" s_place ["prime", "number"] f3 fd3) (D_is_prime : Dfn K mg "is_prime" "is_prime" s_is_prime ["found"] f4 fd4) (g_GREATEST_PRIME : mg "GREATEST_PRIME" = some (.int 1000000 tGP)) (g_isqrt : mg "isqrt" = some (.builtin "math.isqrt")) (D_is_number : Dfn K mg "is_number" "is_number" s_is_number ["found"] f5 fd5)
    (D_power : Dfn K mg "power" "power" s_power ["base", "exponent", "prime"] f7 fd7) (D_no_square : Dfn K mg "no_square" "no_square" s_no_square ["prime"] f8 fd8) (D_twos_in : Dfn K mg "twos_in" "twos_in" s_twos_in ["number"] f9 fd9) :
    FnOk P w K mg base (L2N.CX P w) 4 f fd ["prime", "total"] (spTwo CP CU) := by
  have G_check_prime : FnOk P w K mg base (L2N.CX P w) 3 f1 fd1 ["prime"] (spCheckPrime CP) := ok_checkPrime D_check_prime T X_BadPrime D_is_prime g_GREATEST_PRIME g_isqrt D_is_number
  have G_check_number : FnOk P w K mg base (L2N.CX P w) 2 f6 fd6 ["number"] (spCheckNumber CU) := ok_checkNumber D_check_number T X_BadNumber D_is_number
  have G_place : FnOk P w K mg base CX0 1 f3 fd3 ["prime", "number"] spPlace := ok_place D_place
  have G_root : FnOk P w K mg base CX0 3 f2 fd2 ["square", "prime"] spRoot := ok_root D_root T D_power D_no_square D_twos_in
  refine SX.okN D.F sc_two_of (fun vs H Q E h => ?_) (fun cdv A outer s H vs Q E hr h => ?_)
  · obtain ⟨pz, nv, rfl, _⟩ := h
    rfl
  · obtain ⟨pz, tv, rfl, h⟩ := h
    refine ⟨_, (pss_cons (ps_expr (pe_callS G_check_prime (hr.mono (by decide)) (by rfl) D_check_prime.g D_check_prime.F.kp D_check_prime.b (fun σ => L2N.passAt (L2N.takes_of rfl rfl rfl rfl) σ) (pa_cons (pv 0) pa_nil)))
      (pss_cons (ps_expr (pe_callS G_check_number (hr.mono (by decide)) (by rfl) D_check_number.g D_check_number.F.kp D_check_number.b (fun σ => L2N.passAt (L2N.takes_of rfl rfl rfl rfl) σ) (pa_cons (pv 1) pa_nil)))
      (pss_cons (ps_set (i := 2) sc_two_of.nd rfl (by first | exact Or.inl rfl | exact Or.inr rfl) (pe_op op_fdivW (pv 1) (pe_op op_mul pe_int (pv 0))))
      (pss_cons (ps_if (PW.pt (pw_or (pt_cmpR op_lt (pv 2) pe_int (nomark _)) (pw_or1 (pt_cmpR op_gt (pv 2) (pe_op op_mul pe_int (pe_op op_sub (pv 0) pe_int)) (nomark _)))))
      (pss_one (ps_ret pe_non))
      pss_nil)
      (pss_cons (ps_set (i := 3) sc_two_of.nd rfl (by first | exact Or.inl rfl | exact Or.inr rfl) (pe_call G_root (hr.mono (by decide)) (by rfl) D_root.g D_root.F.kp D_root.b .nil pass0 (pa_cons (pe_op op_sub (pe_op op_mul pe_int (pv 1)) (pe_op op_mul (pv 2) (pv 2))) (pa_cons (pv 0) pa_nil))))
      (pss_cons (ps_if (pt_cmpR op_isN (pv 3) pe_non (nomark _))
      (pss_one (ps_ret pe_non))
      pss_nil)
      (pss_cons (ps_if (pt_cmpR op_ne (pe_op op_mod (pv 3) pe_int) (pe_op op_mod (pv 2) pe_int) (nomark _))
      (pss_one (ps_set (i := 3) sc_two_of.nd rfl (by first | exact Or.inl rfl | exact Or.inr rfl) (pe_op op_sub (pv 0) (pv 3))))
      pss_nil)
      (pss_cons (ps_par (i := 4) (j := 5) (by rfl) sc_two_of.nd rfl rfl (by decide) rfl rfl (pa_cons (pe_op op_fdivW (pe_op op_sub (pv 2) (pv 3)) pe_int) (pa_cons (pe_op op_fdivW (pe_op op_add (pv 2) (pv 3)) pe_int) pa_nil)) (by rfl))
      (pss_cons (ps_if (PW.pt (pw_or (pt_cmpR op_lt (pv 4) pe_int (nomark _)) (pw_or (pt_cmpR op_ge (pv 5) (pv 0) (nomark _)) (pw_or1 (pt_cmpR op_ne (pe_op op_add (pe_call G_place (hr.mono (by decide)) (by rfl) D_place.g D_place.F.kp D_place.b .nil pass0 (pa_cons (pv 0) (pa_cons (pv 4) pa_nil))) (pe_call G_place (hr.mono (by decide)) (by rfl) D_place.g D_place.F.kp D_place.b .nil pass0 (pa_cons (pv 0) (pa_cons (pv 5) pa_nil)))) (pv 1) (nomark _))))))
      (pss_one (ps_ret pe_non))
      pss_nil)
      (pss_one (ps_ret (pe_tup (pa_cons (pv 4) (pa_cons (pv 5) pa_nil)))))))))))))), ?_⟩
    refine q_callX (vs := [pz]) (by walk_at "ev") fun H1 e1 => ⟨pz, rfl, ?_⟩
    rcases h with ⟨p, t, rfl, hp, rfl, k⟩ | ⟨hb, k⟩ | ⟨p, rfl, hp, hb, k⟩
    · refine .inl ⟨p, rfl, hp, fun H2 e2 => ?_⟩
      have p3 := hp.1
      have p6 := hp.2.1
      have c1 : CMul (2 : Int) p := cmul_l (by decide) (by decide)
      have c2 : CMul (2 : Int) t := cmul_l (by decide) (by decide)
      have c3 : CMul (2 : Int) (p - 1) := cmul_l (by decide) (by decide)
      refine q_callX (by walk_at "ev") fun H3 e3 => ⟨_, rfl, .inl ⟨_, rfl, fun H4 e4 => ?_⟩⟩
      refine q_asg (v := .int (t / (2 * p))) (ev_op (ev_var rfl) (ev_op ev_c (ev_var rfl) (rv_I c1)) (rv_I (cdiv_small (by omega) (by omega)))) fun H5 e5 => ?_
      have hrg : ∀ a b, NT.Two p t a b → 0 ≤ t / (2 * p) ∧ t / (2 * p) ≤ 2 * (p - 1) := fun a b h => NT.two_range hp h
      have hgap : ∀ a b g, NT.Two p t a b → 0 ≤ g → g < p → NT.Cg p.toNat (g * g) (2 * t - (t / (2 * p)) * (t / (2 * p))) → (if g % 2 = (t / (2 * p)) % 2 then g else p - g) = b - a ∧ t / (2 * p) = a + b := fun a b g h => NT.root_gap hp h
      have hsq : ∀ a b, NT.Two p t a b → NT.Cg p.toNat ((b - a) * (b - a)) (2 * t - (t / (2 * p)) * (t / (2 * p))) := fun a b h => by
        rw [NT.both_is (by omega) h.2.2.2]
        have h5 := h.2.2.2
        obtain ⟨n, rfl, _⟩ := hp.nat
        rw [Int.toNat_natCast]
        exact (NT.cg_gap h5).symm
      generalize t / (2 * p) = S at hrg hgap hsq ⊢
      have e05 := (((e1.trans e2).trans e3).trans e4).trans e5
      refine q_when (b := !decide (0 ≤ S ∧ S ≤ 2 * (p - 1))) (et_is (et_or (et_test (ev_op (ev_var rfl) ev_c rv_I0)) fun _ => et_test (ev_op (ev_var rfl) (ev_op ev_c (ev_op (ev_var rfl) ev_c rv_I0) (rv_I c3)) rv_I0)) ?_) (fun hb H6 e6 => ?_) fun hb H6 e6 => ?_
      · rw [Bool.eq_iff_iff]
        simp only [Bool.or_eq_true, decide_eq_true_eq, Bool.not_eq_true', decide_eq_false_iff_not]
        omega
      · refine s_ret ev_c fun H7 e7 => k _ H7 ((e05.trans e6).trans e7) (.inr ⟨rfl, fun a b h => ?_⟩)
        rw [decide_eq_true (hrg a b h)] at hb
        exact nomatch hb
      · have hS : 0 ≤ S ∧ S ≤ 2 * (p - 1) := by
          cases h : decide (0 ≤ S ∧ S ≤ 2 * (p - 1)) with
          | true => exact of_decide_eq_true h
          | false => rw [h] at hb; exact nomatch hb
        have c4 : CMul S S := cmul_l (by omega) (by omega)
        refine q_asgP (P := fun v _ => RootV p.toNat (2 * t - S * S) v) (evp_call (ea_cons (ev_op (ev_op ev_c (ev_var rfl) (rv_I c2)) (ev_op (ev_var rfl) (ev_var rfl) (rv_I c4)) rv_I0) (ea_cons (ev_var rfl) ea_nil)) fun H7 e7 Q7 q7 => ⟨2 * t - S * S, p.toNat, by rw [Int.toNat_of_nonneg (by omega)] <;> rfl, hp.2.2, by omega, by omega, fun v hv H8 e8 => q7 v H8 e8 hv⟩) fun v H7 e7 hv => ?_
        have e07 := (e05.trans e6).trans e7
        rcases hv with ⟨g, rfl, g0, g1, hg⟩ | ⟨rfl, hno⟩
        · have g1' : g < p := by omega
          refine q_when (b := false) (et_test (ev_op (ev_var rfl) ev_c fun H8 e8 Q8 q8 => ⟨rfl, q8 H8 (Ex.refl H8)⟩)) (fun h => nomatch h) fun _ H8 e8 => ?_
          refine q_ifAsg (b := !decide (g % 2 = S % 2)) (v := .int (if g % 2 = S % 2 then g else p - g)) (et_is (et_test (ev_op (ev_op (ev_var rfl) ev_c (rv_I (C := fun _ j : Int => 0 < j) (by decide))) (ev_op (ev_var rfl) ev_c (rv_I (C := fun _ j : Int => 0 < j) (by decide))) (rv_ne rfl))) (by congr 1; exact decide_eq_decide.mpr ⟨fun h => by injection h, fun h => by rw [h]⟩)) (fun hb2 => ?_) (fun hb2 => ?_) fun H9 e9 => ?_
          · have : ¬ g % 2 = S % 2 := fun e => by rw [decide_eq_true e] at hb2; exact nomatch hb2
            rw [if_neg this]
            exact ev_op (ev_var rfl) (ev_var rfl) rv_I0
          · have : g % 2 = S % 2 := by
              cases h : decide (g % 2 = S % 2) with
              | true => exact of_decide_eq_true h
              | false => rw [h] at hb2; exact nomatch hb2
            rw [if_pos this]
            rfl
          · have hG : 0 ≤ (if g % 2 = S % 2 then g else p - g) ∧ (if g % 2 = S % 2 then g else p - g) ≤ p := by
              split <;> omega
            have hG2 : ∀ a b, NT.Two p t a b → (if g % 2 = S % 2 then g else p - g) = b - a ∧ S = a + b := fun a b h => hgap a b g h g0 g1' hg
            generalize (if g % 2 = S % 2 then g else p - g) = G at hG hG2 ⊢
            refine q_par (x := .int ((S - G) / 2)) (y := .int ((S + G) / 2)) (ev_op (ev_op (ev_var rfl) (ev_var rfl) rv_I0) ev_c (rv_I (cdiv_small (by decide) (by decide)))) (ev_op (ev_op (ev_var rfl) (ev_var rfl) rv_I0) ev_c (rv_I (cdiv_small (by decide) (by decide)))) fun H10 e10 => ?_
            have hl : (S - G) / 2 ≤ (S + G) / 2 := by omega
            have hab : ∀ a b, NT.Two p t a b → (S - G) / 2 = a ∧ (S + G) / 2 = b := fun a b h => by
              have := hG2 a b h
              omega
            generalize (S - G) / 2 = lo at hl hab ⊢
            generalize (S + G) / 2 = hi at hl hab ⊢
            have e10' := ((e07.trans e8).trans e9).trans e10
            refine q_when (b := !decide (0 ≤ lo ∧ hi < p ∧ NT.place p lo + NT.place p hi = t)) (et_is (et_or (et_test (ev_op (ev_var rfl) ev_c rv_I0)) fun h1 => et_or (et_test (ev_op (ev_var rfl) (ev_var rfl) rv_I0)) fun h2 => et_test (ev_op (ev_op (ev_call (by walk_at "ev") fun H4 e4 Q4 q4 E4 => ⟨p, lo, rfl, by omega, p6, ?_, ?_, q4⟩) (ev_call (by walk_at "ev") fun H4 e4 Q4 q4 E4 => ⟨p, hi, rfl, by omega, p6, ?_, ?_, q4⟩) rv_I0) (ev_var rfl) (rv_ne rfl))) ?_) (fun hb H11 e11 => ?_) fun hb H11 e11 => ?_
            · have := of_decide_eq_false h1; omega
            · have := of_decide_eq_false h2; omega
            · have := of_decide_eq_false h1; omega
            · have := of_decide_eq_false h2; omega
            · rw [Bool.eq_iff_iff]
              simp only [Bool.or_eq_true, decide_eq_true_eq, Bool.not_eq_true', decide_eq_false_iff_not, V.int.injEq]
              omega
            · refine s_ret ev_c fun H12 e12 => k _ H12 ((e10'.trans e11).trans e12) (.inr ⟨rfl, fun a b h => ?_⟩)
              have := hab a b h
              rw [decide_eq_true (by rw [this.1, this.2]; exact ⟨h.1, h.2.2.1, h.2.2.2⟩)] at hb
              exact nomatch hb
            · have hok : 0 ≤ lo ∧ hi < p ∧ NT.place p lo + NT.place p hi = t := by
                cases h : decide (0 ≤ lo ∧ hi < p ∧ NT.place p lo + NT.place p hi = t) with
                | true => exact of_decide_eq_true h
                | false => rw [h] at hb; exact nomatch hb
              exact s_retU (eu_ints [lo, hi] (by walk_at "ev") (by exact rfl) (by show 2 ≤ 100000; decide)) fun q H12 hq e12 h12 => k _ H12 ((e10'.trans e11).trans e12) (.inl ⟨q, lo, hi, rfl, h12, hok.1, hl, hok.2.1, hok.2.2⟩)
        · refine q_when (b := true) (et_test (ev_op (ev_var rfl) ev_c fun H8 e8 Q8 q8 => ⟨rfl, q8 H8 (Ex.refl H8)⟩)) (fun _ H8 e8 => ?_) fun h => nomatch h
          exact s_ret ev_c fun H9 e9 => k _ H9 ((e07.trans e8).trans e9) (.inr ⟨rfl, fun a b h => hno _ (hsq a b h)⟩)
    · exact .inr ⟨hb.mono e1, fun H2 e2 => k H2 (e1.trans e2)⟩
    · refine .inl ⟨p, rfl, hp, fun H2 e2 => ?_⟩
      exact q_callX (by walk_at "ev") fun H3 e3 => ⟨_, rfl, .inr ⟨hb.mono ((e1.trans e2).trans e3), fun H4 e4 => k H4 (((e1.trans e2).trans e3).trans e4)⟩⟩
/-! ### apart_by -/
def AptV (p t : Int) (v : V) (H : Hp) : Prop := (∃ q a b, v = .ref q ∧ H q = some (.tup ([a, b].map V.int)) ∧ NT.Apt p t a b) ∨ (v = .non ∧ ∀ a b, ¬ NT.Apt p t a b)
theorem AptV.mono {p t : Int} : Mono (AptV p t) := fun _ _ _ e h => h.imp (fun ⟨q, a, b, h1, h2, h3⟩ => ⟨q, a, b, h1, e _ _ h2, h3⟩) id
def BadD (v : V) (H : Hp) : Prop := (∃ i : Int, v = .int i ∧ i < 1) ∨ NumV v H false
theorem BadD.mono {v : V} {H H' : Hp} (e : Ex H H') (h : BadD v H) : BadD v H' := h.imp id fun h => h.mono e
def spApt (CP CU : Addr) : Sp := fun vs H Q E => ∃ pz tv, vs = [pz, tv] ∧ ((∃ p t : Int, pz = .int p ∧ NT.PrI p ∧ tv = .int t ∧ 1 ≤ t ∧ ∀ v H2, Ex H H2 → AptV p t v H2 → Q v H2) ∨ (BadP pz H ∧ ∀ H1, Ex H H1 → E (.ref CP) none H1) ∨ (∃ p : Int, pz = .int p ∧ NT.PrI p ∧ BadD tv H ∧ ∀ H1, Ex H H1 → E (.ref CU) none H1))
theorem ok_aptBy {f f1 f2 f3 f4 f5 f7 CP CU : Addr} {fd fd1 fd2 fd3 fd4 fd5 fd7 : FuncData} {tGP : Tok} (D : Dfn K mg "apart_by" "apart_by" s_apart_by ["prime", "difference"] f fd) (T : Tx mg) (X_BadPrime : XC K mg "BadPrime" CP) (X_BadNumber : XC K mg "BadNumber" CU) (D_check_prime : Dfn K mg "check_prime" "check_prime" s_check_prime ["prime"] f1 fd1) (D_inverse : Dfn K mg "inverse" "inverse" s_inverse ["number", "prime"] f2 fd2)
    (D_place : Dfn K mg "place" "place" s_place ["prime", "number"] f3 fd3) (D_is_prime : Dfn K mg "is_prime" "is_prime" s_is_prime ["found"] f4 fd4) (g_GREATEST_PRIME : mg "GREATEST_PRIME" = some (.int 1000000 tGP)) (g_isqrt : mg "isqrt" = some (.builtin "math.isqrt")) (D_is_number : Dfn K mg "is_number" "is_number" s_is_number ["found"] f5 fd5)
    (D_power : Dfn K mg "power" "power" s_power ["base", "exponent", "prime"] f7 fd7) : FnOk P w K mg base (L2N.CX P w) 4 f fd ["prime", "difference"] (spApt CP CU) := by
  have G_check_prime : FnOk P w K mg base (L2N.CX P w) 3 f1 fd1 ["prime"] (spCheckPrime CP) := ok_checkPrime D_check_prime T X_BadPrime D_is_prime g_GREATEST_PRIME g_isqrt D_is_number
  have G_is_number : FnOk P w K mg base CX0 1 f5 fd5 ["found"] spNumber := ok_number D_is_number T
  have G_place : FnOk P w K mg base CX0 1 f3 fd3 ["prime", "number"] spPlace := ok_place D_place
  have G_inverse : FnOk P w K mg base CX0 2 f2 fd2 ["number", "prime"] spInverse := ok_inverse D_inverse D_power
  refine SX.okN D.F sc_apart_by (fun vs H Q E h => ?_) (fun cdv A outer s H vs Q E hr h => ?_)
  · obtain ⟨pz, nv, rfl, _⟩ := h
    rfl
  · obtain ⟨pz, tv, rfl, h⟩ := h
    refine ⟨_, (pss_cons (ps_expr (pe_callS G_check_prime (hr.mono (by decide)) (by rfl) D_check_prime.g D_check_prime.F.kp D_check_prime.b (fun σ => L2N.passAt (L2N.takes_of rfl rfl rfl rfl) σ) (pa_cons (pv 0) pa_nil)))
      (pss_cons (ps_if (PW.pt (pw_or (pt_not (pt_val (pe_call G_is_number (hr.mono (by decide)) (by rfl) D_is_number.g D_is_number.F.kp D_is_number.b .nil pass0 (pa_cons (pv 1) pa_nil)))) (pw_or1 (pt_cmpR op_lt (pv 1) pe_int (nomark _)))))
      (pss_one (L2N.ps_raise rfl (L2N.takes_of rfl rfl rfl rfl) (L2N.pmk_own PySem.F.excBase_ValueError X_BadNumber.x X_BadNumber.g X_BadNumber.k (raises_own X_BadNumber.b X_BadNumber.t) (by rfl))))
      pss_nil)
      (pss_cons (ps_set (i := 2) sc_apart_by.nd rfl (by first | exact Or.inl rfl | exact Or.inr rfl) (pe_op op_fdivW (pe_op op_add (pv 1) (pv 0)) (pe_op op_mul pe_int (pv 0))))
      (pss_cons (ps_if (PW.pt (pw_or (pt_cmpR op_lt (pv 2) pe_int (nomark _)) (pw_or1 (pt_cmpR op_ge (pv 2) (pv 0) (nomark _)))))
      (pss_one (ps_ret pe_non))
      pss_nil)
      (pss_cons (ps_set (i := 3) sc_apart_by.nd rfl (by first | exact Or.inl rfl | exact Or.inr rfl) (pe_op op_mod (pe_op op_mul (pe_op op_sub (pv 1) (pe_op op_mul (pv 2) (pv 2))) (pe_call G_inverse (hr.mono (by decide)) (by rfl) D_inverse.g D_inverse.F.kp D_inverse.b .nil pass0 (pa_cons (pe_op op_mul pe_int (pv 2)) (pa_cons (pv 0) pa_nil)))) (pv 0)))
      (pss_cons (ps_set (i := 4) sc_apart_by.nd rfl (by first | exact Or.inl rfl | exact Or.inr rfl) (pe_op op_add (pv 3) (pv 2)))
      (pss_cons (ps_if (PW.pt (pw_or (pt_cmpR op_ge (pv 4) (pv 0) (nomark _)) (pw_or1 (pt_cmpR op_ne (pe_op op_sub (pe_call G_place (hr.mono (by decide)) (by rfl) D_place.g D_place.F.kp D_place.b .nil pass0 (pa_cons (pv 0) (pa_cons (pv 4) pa_nil))) (pe_call G_place (hr.mono (by decide)) (by rfl) D_place.g D_place.F.kp D_place.b .nil pass0 (pa_cons (pv 0) (pa_cons (pv 3) pa_nil)))) (pv 1) (nomark _)))))
      (pss_one (ps_ret pe_non))
      pss_nil)
      (pss_one (ps_ret (pe_tup (pa_cons (pv 3) (pa_cons (pv 4) pa_nil)))))))))))), ?_⟩
    refine q_callX (vs := [pz]) (by walk_at "ev") fun H1 e1 => ⟨pz, rfl, ?_⟩
    rcases h with ⟨p, t, rfl, hp, rfl, t1, k⟩ | ⟨hb, k⟩ | ⟨p, rfl, hp, hb, k⟩
    · refine .inl ⟨p, rfl, hp, fun H2 e2 => ?_⟩
      have p3 := hp.1
      have p6 := hp.2.1
      have c1 : CMul (2 : Int) p := cmul_l (by decide) (by decide)
      refine q_when (b := false) (et_or (a := false) (b := false) (et_not (a := true) (et_B (ev_call (by walk_at "ev") fun H3 e3 Q3 q3 E3 => ⟨_, true, rfl, .inl ⟨t, rfl, rfl⟩, q3⟩))) fun _ => et_is (et_test (ev_op (ev_var rfl) ev_c rv_I0)) (decide_eq_false (by omega))) (fun h => nomatch h) fun _ H3 e3 => ?_
      refine q_asg (v := .int ((t + p) / (2 * p))) (ev_op (ev_op (ev_var rfl) (ev_var rfl) rv_I0) (ev_op ev_c (ev_var rfl) (rv_I c1)) (rv_I (cdiv_small (by omega) (by omega)))) fun H4 e4 => ?_
      have hgp : ∀ a b, NT.Apt p t a b → (t + p) / (2 * p) = b - a := fun a b h => NT.gap_is (by omega) h.2.2.2
      generalize (t + p) / (2 * p) = g at hgp ⊢
      have e04 := ((e1.trans e2).trans e3).trans e4
      refine q_when (b := !decide (1 ≤ g ∧ g < p)) (et_is (et_or (et_test (ev_op (ev_var rfl) ev_c rv_I0)) fun _ => et_test (ev_op (ev_var rfl) (ev_var rfl) rv_I0)) ?_) (fun hb H5 e5 => ?_) fun hb H5 e5 => ?_
      · rw [Bool.eq_iff_iff]
        simp only [Bool.or_eq_true, decide_eq_true_eq, Bool.not_eq_true', decide_eq_false_iff_not]
        omega
      · refine s_ret ev_c fun H6 e6 => k _ H6 ((e04.trans e5).trans e6) (.inr ⟨rfl, fun a b h => ?_⟩)
        have h1 := hgp a b h
        have := h.1
        have := h.2.1
        have := h.2.2.1
        rw [decide_eq_true (show 1 ≤ g ∧ g < p by omega)] at hb
        exact nomatch hb
      · have hg : 1 ≤ g ∧ g < p := by
          cases h : decide (1 ≤ g ∧ g < p) with
          | true => exact of_decide_eq_true h
          | false => rw [h] at hb; exact nomatch hb
        have c2 : CMul g g := cmul_l (by omega) (by omega)
        have c3 : CMul (2 : Int) g := cmul_l (by decide) (by decide)
        have hpp : 0 < p := by omega
        have hm := Int.emod_nonneg ((2 * g) ^ (p - 2).toNat) (show p ≠ 0 by omega)
        have hm2 := Int.emod_lt_of_pos ((2 * g) ^ (p - 2).toNat) hpp
        have c4 : CMul (t - g * g) ((2 * g) ^ (p - 2).toNat % p) := cmul_r (by omega) (by omega)
        refine q_asg (v := .int ((t - g * g) * ((2 * g) ^ (p - 2).toNat % p) % p)) (ev_op (ev_op (ev_op (ev_var rfl) (ev_op (ev_var rfl) (ev_var rfl) (rv_I c2)) rv_I0) (ev_call (ea_cons (ev_op ev_c (ev_var rfl) (rv_I c3)) (ea_cons (ev_var rfl) ea_nil)) fun H6 e6 Q6 q6 E6 => ⟨2 * g, p, rfl, by omega, p6, q6⟩) (rv_I c4)) (ev_var rfl) (rv_I (C := fun _ j : Int => 0 < j) hpp)) fun H6 e6 => ?_
        have hlo : ∀ a b, NT.Apt p t a b → (t - g * g) * ((2 * g) ^ (p - 2).toNat % p) % p = a := fun a b h => by
          have h1 := NT.low_is hp h
          rw [← hgp a b h] at h1
          exact h1
        have hl0 := Int.emod_nonneg ((t - g * g) * ((2 * g) ^ (p - 2).toNat % p)) (show p ≠ 0 by omega)
        have hl1 := Int.emod_lt_of_pos ((t - g * g) * ((2 * g) ^ (p - 2).toNat % p)) hpp
        generalize (t - g * g) * ((2 * g) ^ (p - 2).toNat % p) % p = lo at hlo hl0 hl1 ⊢
        refine q_asg (v := .int (lo + g)) (ev_op (ev_var rfl) (ev_var rfl) rv_I0) fun H7 e7 => ?_
        have e07 := ((e04.trans e5).trans e6).trans e7
        refine q_when (b := !decide (lo + g < p ∧ NT.place p (lo + g) - NT.place p lo = t)) (et_is (et_or (et_test (ev_op (ev_var rfl) (ev_var rfl) rv_I0)) fun h1 => et_test (ev_op (ev_op (ev_call (by walk_at "ev") fun H4 e4 Q4 q4 E4 => ⟨p, lo + g, rfl, by omega, p6, by omega, by omega, q4⟩) (ev_call (by walk_at "ev") fun H4 e4 Q4 q4 E4 => ⟨p, lo, rfl, by omega, p6, hl0, by omega, q4⟩) rv_I0) (ev_var rfl) (rv_ne rfl))) ?_) (fun hb H11 e11 => ?_) fun hb H11 e11 => ?_
        · rw [Bool.eq_iff_iff]
          simp only [Bool.or_eq_true, decide_eq_true_eq, Bool.not_eq_true', decide_eq_false_iff_not, V.int.injEq]
          omega
        · refine s_ret ev_c fun H12 e12 => k _ H12 ((e07.trans e11).trans e12) (.inr ⟨rfl, fun a b h => ?_⟩)
          have h1 := hlo a b h
          have h2 := hgp a b h
          have h3 : lo + g = b := by omega
          rw [decide_eq_true (by rw [h3, h1]; exact ⟨h.2.2.1, h.2.2.2⟩)] at hb
          exact nomatch hb
        · have hok : lo + g < p ∧ NT.place p (lo + g) - NT.place p lo = t := by
            cases h : decide (lo + g < p ∧ NT.place p (lo + g) - NT.place p lo = t) with
            | true => exact of_decide_eq_true h
            | false => rw [h] at hb; exact nomatch hb
          exact s_retU (eu_ints [lo, lo + g] (by walk_at "ev") (by exact rfl) (by show 2 ≤ 100000; decide)) fun q H12 hq e12 h12 => k _ H12 ((e07.trans e11).trans e12) (.inl ⟨q, lo, lo + g, rfl, h12, hl0, by omega, hok.1, hok.2⟩)
    · exact .inr ⟨hb.mono e1, fun H2 e2 => k H2 (e1.trans e2)⟩
    · refine .inl ⟨p, rfl, hp, fun H2 e2 => ?_⟩
      have e02 := e1.trans e2
      rcases hb with ⟨i, rfl, hi⟩ | hn
      · exact q_when (b := true) (et_or (a := false) (b := true) (et_not (a := true) (et_B (ev_call (by walk_at "ev") fun H3 e3 Q3 q3 E3 => ⟨_, true, rfl, .inl ⟨i, rfl, rfl⟩, q3⟩))) fun _ => et_is (et_test (ev_op (ev_var rfl) ev_c rv_I0)) (decide_eq_true hi)) (fun _ H3 e3 => k H3 (e02.trans e3)) fun h => nomatch h
      · exact q_when (b := true) (et_or (a := true) (b := true) (et_not (a := false) (et_B (ev_call (by walk_at "ev") fun H3 e3 Q3 q3 E3 => ⟨_, false, rfl, hn.mono (e02.trans e3), q3⟩))) fun h => nomatch h) (fun _ H3 e3 => k H3 (e02.trans e3)) fun h => nomatch h
end
end K7

namespace K7
open PySem PySem.Spec PyProof.Rows L2 Evl SX SM
local macro_rules | `(tactic| walk_at "cond") => `(tactic| first
  | assumption
  | exact cdiv_small (by decide) (by decide)
  | exact cmul_l (by decide) (by decide)
  | exact cmul_r (by decide) (by decide)
  | exact cpow_c (by decide) (by decide) (by decide)
  | (show (0 : Int) < _; decide)
  | (show (0 : Int) < _; omega))
local macro_rules | `(tactic| walk_at "ev") => `(tactic| first
  | with_reducible exact ev_c
  | ((with_reducible apply ev_var); exact rfl)
  | with_reducible exact ea_nil
  | with_reducible exact eo_none
  | ((with_reducible apply ea_cons) <;> walk_at "ev")
  | ((with_reducible apply eo_some); walk_at "ev")
  | ((with_reducible apply ev_op (hr := rv_I0)) <;> walk_at "ev")
  | ((with_reducible apply ev_op (hr := rv_I ?cnd)); (· walk_at "ev"); (· walk_at "ev"); (· walk_at "cond"))
  | ((with_reducible apply ev_un (hr := ru_neg)); walk_at "ev")
  | ((with_reducible apply ev_op (hr := rv_eq ?cnd)); (· walk_at "ev"); (· walk_at "ev"); (· exact rfl))
  | ((with_reducible apply ev_op (hr := rv_ne ?cnd)); (· walk_at "ev"); (· walk_at "ev"); (· exact rfl))
  | ((with_reducible apply ev_lenI); (· walk_at "ev"); (· assumption))
  | ((with_reducible apply ev_ixL); (· walk_at "ev"); (· walk_at "ev"); (· assumption); (· first | exact atI_nat (j := 0) rfl | exact atI_nat (j := 1) rfl | exact atI_nat (j := 2) rfl))
  | ((with_reducible apply et_test); walk_at "ev")
  | ((with_reducible apply et_B); walk_at "ev"))
local macro_rules | `(tactic| walk_at "tup") => `(tactic| first
  | ((with_reducible apply evp_T [_, _]); (· walk_at "ev"); (· exact rfl); (· show 2 ≤ 100000; decide))
  | ((with_reducible apply evp_T [_]); (· walk_at "ev"); (· exact rfl); (· show 1 ≤ 100000; decide))
  | ((with_reducible apply evp_T [_, _, _]); (· walk_at "ev"); (· exact rfl); (· show 3 ≤ 100000; decide))
  | ((with_reducible apply evp_T []); (· walk_at "ev"); (· exact rfl); (· show 0 ≤ 100000; decide)))
local macro_rules | `(tactic| walk_at "pairs") => `(tactic| first
  | with_reducible exact eal_nil
  | ((with_reducible apply eal_cons PairT.mono); (· ((with_reducible apply evp_pair) <;> walk_at "tup")); (· walk_at "pairs")))
abbrev s_behind : Stmt := topS 39
abbrev N_behind : List Str := ["marks", "barred", "least", "number", "total", "found"]
theorem sc_behind : FnScope N_behind ["marks"] (defScope s_behind) := ⟨rfl, rfl, rfl, by decide +kernel, rfl, by decide +kernel, by decide +kernel⟩
section
variable {P : Program} {w : World} {K : PySem.W.Frag} {mg : Str → Option Value} {base : Heap}
/-! ### behind -/
theorem et_truL {σ : L2.St} {H : Hp} {ta : TE} {a : Addr} {xs : List V} (h : Ev ta σ H (.ref a)) (hx : SqL K H a xs) : EvT (fun σ H Q => ta σ H fun x H' => ∃ k, TruV K x H' k ∧ Q k H') σ H (!xs.isEmpty) := fun H1 e Q q =>
  h H1 e _ fun H2 e2 => ⟨_, .inl ⟨xs, ex_l (e.trans e2) hx, rfl⟩, q H2 e2⟩
theorem at_last {ns : List Int} (h : 0 < ns.length) : atI (ns.map V.int) (-1) = some (.int (lastOf ns)) := by
  unfold atI ixN
  rw [if_neg (by decide), List.length_map, if_pos (by omega)]
  have e : ((-1 : Int) + (ns.length : Int)).toNat = ns.length - 1 := by omega
  rw [e]
  show (ns.map V.int)[ns.length - 1]? = _
  rw [List.getElem?_map, List.getElem?_eq_getElem (by omega)]
  unfold lastOf
  rw [gd (by omega)]
  rfl
/-- [t - z for t in sums for z in marks], sorted -/
theorem evp_barred {σ : L2.St} {H : Hp} {tl : TE} {a : Addr} {ns ts : List Int} (h : EvL tl σ H (ts.map V.int)) (hs : ∀ x y, ((wipe σ [4, 5]).set 4 (some x)) = σ.set 4 (some x) ∧ wipe (σ.set 4 (some x)) [4, 5] = wipe σ [4, 5] ∧ ((wipe (σ.set 4 (some x)) [5]).set 5 (some y)) = (σ.set 4 (some x)).set 5 (some y) ∧ wipe ((σ.set 4 (some x)).set 5 (some y)) [5] = wipe (σ.set 4 (some x)) [5] ∧ ((σ.set 4 (some x)).set 5 (some y))[4]? = some (some x) ∧ ((σ.set 4 (some x)).set 5 (some y))[5]? = some (some y) ∧ (σ.set 4 (some x))[0]? = some (some (.ref a)))
    (hm : H a = some (.lst (ns.map V.int))) (hz : ts.length * ns.length ≤ 100000) :
    EvL (tLc2 (iList K tl) (gName 4) tYes (iList K (tVar 0)) (gName 5) tYes (tOp (rI0 fun i j => .int (i - j)) (tVar 4) (tVar 5)) [4, 5] [5]) σ H ((ts.flatMap fun t => ns.map fun z => t - z).map V.int) := fun H1 e Q q =>
  h H1 e _ fun p H2 hp e2 h2 => ⟨p, rfl, ⟨_, sq_of h2⟩, fun L hL => by
    have e02 := e.trans e2
    have hm2 := e02 a _ hm
    let acc : Nat → List Int := fun i => (ts.take i).flatMap fun t => ns.map fun z => t - z
    have hlen : ∀ i, (acc i).length ≤ i * ns.length := fun i => by
      induction i with
      | zero => simp [acc]
      | succ i ih =>
        by_cases hi : i < ts.length
        · show ((ts.take (i + 1)).flatMap _).length ≤ _
          rw [List.take_add_one, List.getElem?_eq_getElem hi, List.flatMap_append, List.length_append]
          have ih' : ((ts.take i).flatMap fun t => ns.map fun z => t - z).length ≤ i * ns.length := ih
          simp only [Option.toList_some, List.flatMap_cons, List.flatMap_nil, List.append_nil, List.length_map]
          rw [Nat.succ_mul]
          omega
        · show ((ts.take (i + 1)).flatMap _).length ≤ _
          rw [List.take_of_length_le (by omega), ← List.take_of_length_le (show ts.length ≤ i by omega)]
          have ih' : ((ts.take i).flatMap fun t => ns.map fun z => t - z).length ≤ i * ns.length := ih
          rw [Nat.succ_mul]
          omega
    refine ⟨fun i c H' => c = ts.length - i ∧ i ≤ ts.length ∧ Ex H2 H' ∧ H' L = some (.lst ((acc i).map V.int)), ⟨_, rfl, Nat.zero_le _, Ex.new hL, by rw [upd_same] <;> rfl⟩, ?_⟩
    rintro i c H3 ⟨rfl, hi, e3, h3⟩
    have q3 : SqL K H3 p (ts.map V.int) := sq_of (e3 p _ h2)
    by_cases hlt : i < ts.length
    · have hx : (ts.map V.int)[i]? = some (.int ts[i]) := by rw [List.getElem?_map, List.getElem?_eq_getElem hlt] <;> rfl
      refine .inr ⟨⟨_, _, q3, hx⟩, fun H' => Ex H2 H' ∧ H' L = some (.lst ((acc (i + 1)).map V.int)), fun H' h' => ⟨_, by omega, rfl, hlt, h'.1, h'.2⟩, ?_⟩
      rintro x H4 ⟨rfl, hx2⟩
      obtain rfl : x = .int ts[i] := Option.some.inj ((hx2 _ q3).symm.trans hx)
      obtain ⟨s1, s2, s3, s4, s5, s6, s7⟩ := hs (.int ts[i]) .non
      show wipe ((wipe σ [4, 5]).set 4 (some (.int ts[i]))) [4, 5] = wipe σ [4, 5] ∧ _
      refine ⟨by rw [s1, s2], ?_⟩
      show tYes ((wipe σ [4, 5]).set 4 (some (.int ts[i]))) H4 _
      rw [s1]
      refine tyes_if ?_
      refine ⟨.ref a, s7, a, rfl, ⟨_, sq_of (e3 a _ hm2)⟩, ?_⟩
      refine ⟨fun j c H' => c = ns.length - j ∧ j ≤ ns.length ∧ Ex H2 H' ∧ H' L = some (.lst ((acc i ++ (ns.take j).map fun z => ts[i] - z).map V.int)), ⟨_, rfl, Nat.zero_le _, e3, by rw [h3]; simp⟩, ?_⟩
      rintro j c H5 ⟨rfl, hj, e5, h5⟩
      have q5 : SqL K H5 a (ns.map V.int) := sq_of (e5 a _ hm2)
      by_cases hjl : j < ns.length
      · have hy : (ns.map V.int)[j]? = some (.int ns[j]) := by rw [List.getElem?_map, List.getElem?_eq_getElem hjl] <;> rfl
        refine .inr ⟨⟨_, _, q5, hy⟩, fun H' => Ex H2 H' ∧ H' L = some (.lst ((acc i ++ (ns.take (j + 1)).map fun z => ts[i] - z).map V.int)), fun H' h' => ⟨_, by omega, rfl, hjl, h'.1, h'.2⟩, ?_⟩
        rintro y H6 ⟨rfl, hy2⟩
        obtain rfl : y = .int ns[j] := Option.some.inj ((hy2 _ q5).symm.trans hy)
        obtain ⟨_, _, t3, t4, t5, t6, _⟩ := hs (.int ts[i]) (.int ns[j])
        show wipe ((wipe (σ.set 4 (some (.int ts[i]))) [5]).set 5 (some (.int ns[j]))) [5] = wipe (σ.set 4 (some (.int ts[i]))) [5] ∧ tYes ((wipe (σ.set 4 (some (.int ts[i]))) [5]).set 5 (some (.int ns[j]))) H6 _
        rw [t3]
        refine ⟨t4, tyes_if ?_⟩
        refine ⟨_, t5, _, t6, _, _, rfl, rfl, _, h5, ?_, Ex.mut e5 hL, ?_⟩
        · have := hlen i
          have h7 : i * ns.length + ns.length ≤ ts.length * ns.length := by
            have := Nat.mul_le_mul_right ns.length (show i + 1 ≤ ts.length from hlt)
            rw [Nat.succ_mul] at this
            exact this
          rw [List.length_map, List.length_append, List.length_map, List.length_take]
          exact sz_lt (by omega)
        · rw [upd_same, List.take_add_one, List.getElem?_eq_getElem hjl]
          simp only [Option.toList_some, List.map_append, List.map_cons, List.map_nil, List.append_assoc]
      · refine .inl ⟨⟨_, q5, by rw [List.length_map]; omega⟩, e5, ?_⟩
        rw [h5, List.take_of_length_le (by omega)]
        show some (HO.lst _) = some (HO.lst (((ts.take (i + 1)).flatMap fun t => ns.map fun z => t - z).map V.int))
        rw [List.take_add_one, List.getElem?_eq_getElem hlt, List.flatMap_append]
        simp [acc]
    · have e5 : i = ts.length := by omega
      subst e5
      refine .inl ⟨⟨_, q3, by rw [List.length_map] <;> exact Nat.le_refl _⟩, q L H3 (fresh_back e2 hL) (e2.trans e3) ?_⟩
      rw [h3]
      show some (HO.lst (((ts.take ts.length).flatMap _).map V.int)) = _
      rw [List.take_length]⟩
def spBehind (CB CN : Addr) : Sp := fun vs H Q E => ∃ v, vs = [v] ∧ ((∃ ns, GoodL v H ns ∧ SM.Apart ns ∧ (ns = [] → RetV (.int 0) H Q) ∧ (ns ≠ [] → ∀ L, Least ns L → RetV (.int L) H Q)) ∨ (∃ ns, GoodL v H ns ∧ ¬ SM.Apart ns ∧ ∀ H1, Ex H H1 → E (.ref CN) none H1) ∨ (BadL v H ∧ ∀ H1, Ex H H1 → E (.ref CB) none H1))
theorem ok_behind {f f1 f2 f3 f4 f5 C2 CB CN : Addr} {fd fd1 fd2 fd3 fd4 fd5 : FuncData} {tMM : Tok} (D : Dfn K mg "behind" "behind" s_behind ["marks"] f fd) (T : Tx mg) (Mk_Apart : MkO K C2) (g_Apart : mg "Apart" = some (.ref C2)) (C_Apart_shows : Cls K C2) (me_Apart_shows : Meth K C2 "shows" f1) (D_ashows : Fun K "shows" "Apart.shows" s_Apart_shows f1 fd1) (b_Apart_shows : Binds K fd1 ["self", "marks"] [])
    (D_all_sums : Dfn K mg "all_sums" "all_sums" s_all_sums ["marks"] f2 fd2) (D_check_marks : Dfn K mg "check_marks" "check_marks" s_check_marks ["marks"] f3 fd3)
    (X_BadMarks : XC K mg "BadMarks" CB) (X_NotApart : XC K mg "NotApart" CN) (g_MOST_MARKS : mg "MOST_MARKS" = some (.int 40 tMM)) (D_is_number : Dfn K mg "is_number" "is_number" s_is_number ["found"] f4 fd4) (D_rises : Dfn K mg "rises" "rises" s_rises ["numbers"] f5 fd5) :
    FnOk P w K mg base (L2N.CX P w) 3 f fd ["marks"] (spBehind CB CN) := by
  have G_Apart_shows : FnOk P w K mg base CX0 2 f1 fd1 ["self", "marks"] (spApart K) := ok_apart D_ashows T D_all_sums
  have G_all_sums : FnOk P w K mg base CX0 1 f2 fd2 ["marks"] (spAll K) := ok_all D_all_sums T
  have G_check_marks : FnOk P w K mg base (L2N.CX P w) 2 f3 fd3 ["marks"] (spCheck CB) := ok_check D_check_marks T X_BadMarks g_MOST_MARKS D_is_number D_rises
  refine SX.okN D.F sc_behind (fun vs H Q E h => ?_) (fun cdv A outer s H vs Q E hr h => ?_)
  · obtain ⟨v, rfl, _⟩ := h
    rfl
  · obtain ⟨v, rfl, h⟩ := h
    refine ⟨_, (pss_cons (ps_expr (pe_callS G_check_marks (hr.mono (by decide)) (by rfl) D_check_marks.g D_check_marks.F.kp D_check_marks.b (fun σ => L2N.passAt (L2N.takes_of rfl rfl rfl rfl) σ) (pa_cons (pv 0) pa_nil)))
      (pss_cons (ps_if (pt_not (pt_val (pe_meth (SX.pe_makeO Mk_Apart (by rfl) g_Apart) C_Apart_shows me_Apart_shows G_Apart_shows (hr.mono (by decide)) b_Apart_shows .nil pass0 (pa_cons (pv 0) pa_nil))))
      (pss_one (L2N.ps_raise rfl (L2N.takes_of rfl rfl rfl rfl) (L2N.pmk_own PySem.F.excBase_ValueError X_NotApart.x X_NotApart.g X_NotApart.k (raises_own X_NotApart.b X_NotApart.t) (by rfl))))
      pss_nil)
      (pss_cons (ps_if (pt_not (pt_truth (pv 0) (by intro _; rfl)))
      (pss_one (ps_ret pe_int))
      pss_nil)
      (pss_cons (ps_set (i := 1) sc_behind.nd rfl (by first | exact Or.inl rfl | exact Or.inr rfl) (pe_callB cr_sortedI (by rfl) T.b_sorted (by decide +kernel) (pa_cons (pe_lc2 (own := [("total", 4), ("found", 5)]) (vs1 := [5]) rfl sc_behind.nd (pi_list (pe_call G_all_sums (hr.mono (by decide)) (by rfl) D_all_sums.g D_all_sums.F.kp D_all_sums.b .nil pass0 (pa_cons (pv 0) pa_nil))) (blkOk_by (N := N_behind) (sc := defScope s_behind) (by decide +kernel)) (by decide) (fun _ _ _ _ _ => (pg_name (i := 4) sc_behind.nd rfl (by first | exact Or.inl rfl | exact Or.inr rfl))) (fun _ _ _ _ _ => pts_nil) (fun _ _ _ _ _ => (SX.pi_listK (K := K) (pv 0))) (fun _ _ _ _ _ => (pg_name (i := 5) sc_behind.nd rfl (by first | exact Or.inl rfl | exact Or.inr rfl))) (fun _ _ _ _ _ => pts_nil) (fun _ _ _ _ _ => (pe_op op_sub (pv 4) (pv 5)))) pa_nil)))
      (pss_cons (ps_set (i := 2) sc_behind.nd rfl (by first | exact Or.inl rfl | exact Or.inr rfl) (pe_op op_add (pe_ix ix_list (pv 0) (pe_un un_neg pe_int) (fun _ _ => rfl)) pe_int))
      (pss_cons (ps_for (passes_of rfl) rfl (pi_list (pv 1)) (pg_name (i := 3) sc_behind.nd rfl (by first | exact Or.inl rfl | exact Or.inr rfl))
      (pss_one (ps_if (pt_cmpR op_eq (pv 3) (pv 2) (nomark _))
      (pss_one (ps_aug (i := 2) sc_behind.nd rfl (by first | exact Or.inl rfl | exact Or.inr rfl) pe_int ip_add))
      pss_nil)))
      (pss_one (ps_ret (pv 2))))))))), ?_⟩
    refine q_callX (vs := [v]) (by walk_at "ev") fun H1 e1 => ⟨v, rfl, ?_⟩
    have shw : ∀ {σ : L2.St} {H1 : Hp} {a : Addr} {ns : List Int}, σ[0]? = some (some (V.ref a)) → H1 a = some (.lst (ns.map V.int)) → ns.length ≤ 40 → EvT (tB (tMeth C2 "shows" (spApart K) [] E0 (tMakeO C2) (tCons (tVar 0) tNil))) σ H1 (decide (SM.Apart ns)) := fun {σ H1 a ns} hs ha hl =>
      et_B (ev_methP (P := fun v H1 => ∃ (q dx : Addr), v = .ref q ∧ H1 q = some (.ins C2 dx [])) (R := fun vs _ => vs = [.ref a]) evp_makeO (eap_ea (ea_cons (ev_var hs) ea_nil) fun _ _ => rfl) (fun v H7 H8 e8 ⟨q, dx, h, h'⟩ => ⟨q, dx, h, e8 q _ h'⟩)
        (fun v H7 ⟨q, dx, h, h'⟩ => ⟨q, dx, _, h, h', rfl⟩) fun v vs H7 e7 _ hvs => by
          subst hvs
          exact fun H8 e8 Q8 q8 E8 => ⟨v, a, ns, rfl, sq_of ((e7.trans e8) a _ ha), by omega, q8⟩)
    rcases h with ⟨ns, ⟨a, rfl, hS, hl, hp⟩, ha, k0, k⟩ | ⟨ns, ⟨a, rfl, hS, hl, hp⟩, ha, k⟩ | ⟨hb, k⟩
    · refine .inl ⟨ns, ⟨a, rfl, e1 a _ hS, hl, hp⟩, fun H2 e2 => ?_⟩
      have hS2 := (e1.trans e2) a _ hS
      refine q_when (b := false) (et_is (et_not (shw rfl hS2 hl)) (by rw [decide_eq_true ha] <;> rfl)) (fun h => nomatch h) fun _ H3 e3 => ?_
      have hS3 := e3 a _ hS2
      have e03 := (e1.trans e2).trans e3
      refine q_when (et_not (et_truL (ev_var rfl) (sq_of hS3))) (fun hb H4 e4 => ?_) fun hb H4 e4 => ?_
      · have hn : ns = [] := by
          cases ns with
          | nil => rfl
          | cons z r => exact nomatch hb
        exact s_ret ev_c fun H5 e5 => k0 hn H5 ((e03.trans e4).trans e5)
      · have hn : ns ≠ [] := fun e => by
          rw [e] at hb
          exact nomatch hb
        have hpos : 0 < ns.length := by
          cases ns with
          | nil => exact absurd rfl hn
          | cons z r => simp
        have e04 := e03.trans e4
        have hS4 := e4 a _ hS3
        have hle := prog_le (two ns) (Nat.le_refl ns.length) (by omega)
        have hsz : (progTo (two ns) ns.length ns.length).length * ns.length ≤ 100000 := by
          have := Nat.mul_le_mul hle hl
          omega
        have hB : EvL (tLc2 (iList K (tCall (spAll K) [] E0 (tCons (tVar 0) tNil))) (gName 4) tYes (iList K (tVar 0)) (gName 5) tYes (tOp (rI0 fun i j => .int (i - j)) (tVar 4) (tVar 5)) [4, 5] [5]) [some (.ref a), none, none, none, none, none] H4 ((barL ns).map V.int) :=
          evp_barred (K := K) (a := a) (ns := ns) (ts := progTo (two ns) ns.length ns.length) (el_call (ea_cons (ev_var rfl) ea_nil) fun H6 e6 Q6 q6 E6 => ⟨a, ns, rfl, sq_of (e6 a _ hS4), by omega, q6⟩) (fun x y => ⟨rfl, rfl, rfl, rfl, rfl, rfl, rfl⟩) hS4 hsz
        refine q_asgP (evp_sortedN hB) fun v H5 e5 hv => ?_
        obtain ⟨p, bs, rfl, h5, hpm, hso⟩ := hv
        have hS5 := e5 a _ hS4
        refine q_asg (v := .int (lastOf ns + 1)) (ev_op (ev_ixL (ev_var rfl) (ev_un ev_c ru_neg) (sq_of hS5) (at_last hpos)) ev_c rv_I0) fun H6 e6 => ?_
        have h6 := e6 p _ h5
        refine q_forLn (ev_var rfl) (sq_of h6) (fun i σ' H' => ∃ y3, σ' = [some (.ref a), some (.ref p), some (.int (scan (bs.take i) (lastOf ns + 1))), y3, none, none] ∧ Ex H6 H') (fun H7 e7 => ⟨_, rfl, e7⟩) (fun i σ' H' _ ⟨_, _, e7⟩ => sq_of (e7 p _ h6)) ?_ ?_
        · rintro i x σ' H7 hx ⟨y3, rfl, e7⟩
          obtain ⟨hi, hx⟩ := List.getElem?_eq_some_iff.mp hx
          rw [List.getElem_map] at hx
          subst hx
          rw [List.length_map] at hi
          have e : bs.take (i + 1) = bs.take i ++ [bs[i]] := by
            rw [List.take_add_one, List.getElem?_eq_getElem hi] <;> rfl
          rw [e, scan_snoc]
          generalize scan (bs.take i) (lastOf ns + 1) = l
          refine s_when (et_test (ev_op (ev_var rfl) (ev_var rfl) (rv_eq rfl))) (fun hb H8 e8 => ?_) fun hb H8 e8 => ?_
          · have hz : bs[i] = l := by
              have := of_decide_eq_true hb
              injection this
            refine s_aug (a := l) (b := 1) rfl ev_c fun H9 e9 => ⟨some (.int bs[i]), ?_, (e7.trans e8).trans e9⟩
            rw [if_pos hz]
            rfl
          · have hz : ¬ bs[i] = l := fun e => of_decide_eq_false hb (by rw [e])
            refine ⟨some (.int bs[i]), ?_, e7.trans e8⟩
            rw [if_neg hz]
            rfl
        · rintro σ' H7 ⟨y3, rfl, e7⟩
          rw [List.length_map, List.take_length]
          exact s_ret (ev_var rfl) fun H8 e8 => k hn _ (scan_least hpm hso) H8 ((((e04.trans e5).trans e6).trans e7).trans e8)
    · refine .inl ⟨ns, ⟨a, rfl, e1 a _ hS, hl, hp⟩, fun H2 e2 => ?_⟩
      exact q_when (b := true) (et_is (et_not (shw rfl ((e1.trans e2) a _ hS) hl)) (by rw [decide_eq_false ha] <;> rfl)) (fun _ H3 e3 => k H3 ((e1.trans e2).trans e3)) fun h => nomatch h
    · refine .inr ⟨?_, fun H2 e2 => k H2 (e1.trans e2)⟩
      exact hb.mono e1
end
end K7

namespace K7
open PySem PySem.Spec PyProof.Rows L2 Evl SX SM
local macro_rules | `(tactic| walk_at "cond") => `(tactic| first
  | assumption
  | exact cdiv_small (by decide) (by decide)
  | exact cmul_l (by decide) (by decide)
  | exact cmul_r (by decide) (by decide)
  | exact cpow_c (by decide) (by decide) (by decide)
  | (show (0 : Int) < _; decide)
  | (show (0 : Int) < _; omega))
local macro_rules | `(tactic| walk_at "ev") => `(tactic| first
  | with_reducible exact ev_c
  | ((with_reducible apply ev_var); exact rfl)
  | with_reducible exact ea_nil
  | with_reducible exact eo_none
  | ((with_reducible apply ea_cons) <;> walk_at "ev")
  | ((with_reducible apply eo_some); walk_at "ev")
  | ((with_reducible apply ev_op (hr := rv_I0)) <;> walk_at "ev")
  | ((with_reducible apply ev_op (hr := rv_I ?cnd)); (· walk_at "ev"); (· walk_at "ev"); (· walk_at "cond"))
  | ((with_reducible apply ev_un (hr := ru_neg)); walk_at "ev")
  | ((with_reducible apply ev_op (hr := rv_eq ?cnd)); (· walk_at "ev"); (· walk_at "ev"); (· exact rfl))
  | ((with_reducible apply ev_op (hr := rv_ne ?cnd)); (· walk_at "ev"); (· walk_at "ev"); (· exact rfl))
  | ((with_reducible apply ev_lenI); (· walk_at "ev"); (· assumption))
  | ((with_reducible apply ev_ixL); (· walk_at "ev"); (· walk_at "ev"); (· assumption); (· first | exact atI_nat (j := 0) rfl | exact atI_nat (j := 1) rfl | exact atI_nat (j := 2) rfl))
  | ((with_reducible apply et_test); walk_at "ev")
  | ((with_reducible apply et_B); walk_at "ev"))
local macro_rules | `(tactic| walk_at "tup") => `(tactic| first
  | ((with_reducible apply evp_T [_, _]); (· walk_at "ev"); (· exact rfl); (· show 2 ≤ 100000; decide))
  | ((with_reducible apply evp_T [_]); (· walk_at "ev"); (· exact rfl); (· show 1 ≤ 100000; decide))
  | ((with_reducible apply evp_T [_, _, _]); (· walk_at "ev"); (· exact rfl); (· show 3 ≤ 100000; decide))
  | ((with_reducible apply evp_T []); (· walk_at "ev"); (· exact rfl); (· show 0 ≤ 100000; decide)))
local macro_rules | `(tactic| walk_at "pairs") => `(tactic| first
  | with_reducible exact eal_nil
  | ((with_reducible apply eal_cons PairT.mono); (· ((with_reducible apply evp_pair) <;> walk_at "tup")); (· walk_at "pairs")))
abbrev s_law_number : Stmt := topS 41
abbrev N_law_number : List Str := ["_law_cell", "_law_at", "_law_whole", "_law_blend", "_law_more"]
theorem sc_law_number : FnScope N_law_number ["_law_cell", "_law_at", "_law_whole"] (defScope s_law_number) := ⟨rfl, rfl, rfl, by decide +kernel, rfl, by decide +kernel, by decide +kernel⟩
/-! ### bits -/
theorem lt_of_bits {z : Int} {n : Nat} (h : Builtin.Int.intBits z ≤ n) : z.natAbs < 2 ^ n := by
  unfold Builtin.Int.intBits at h
  by_cases hz : z = 0
  · subst hz
    exact Nat.two_pow_pos n
  · have hb : (z == 0) = false := by simpa using hz
    rw [hb] at h
    simp only [Bool.false_eq_true, if_false] at h
    exact Nat.lt_of_lt_of_le Nat.lt_log2_self (Nat.pow_le_pow_right (by decide) h)
theorem natAbs_add_lt {a b : Int} {n : Nat} (h1 : a.natAbs < 2 ^ n) (h2 : b.natAbs < 2 ^ n) : (a + b).natAbs < 2 ^ (n + 1) := by
  rw [Nat.pow_succ]
  omega
theorem sum_lt : ∀ (l : List Int) (n k : Nat), l.length ≤ 2 ^ k → (∀ z ∈ l, z.natAbs < 2 ^ n) → l.sum.natAbs ≤ l.length * 2 ^ n
  | [], n, k, _, _ => by simp
  | a :: r, n, k, hl, h => by
    have ih := sum_lt r n k (by simp only [List.length_cons] at hl; omega) fun z hz => h z (List.mem_cons_of_mem _ hz)
    have h1 := h a List.mem_cons_self
    rw [List.sum_cons, List.length_cons, Nat.succ_mul]
    omega
theorem bits_sum {l : List Int} {n : Nat} (hl : l.length ≤ 63) (h : ∀ z ∈ l, Builtin.Int.intBits z ≤ n) : Builtin.Int.intBits l.sum ≤ n + 6 := by
  refine intBits_le (Nat.lt_of_le_of_lt (sum_lt l n 6 (by omega) fun z hz => lt_of_bits (h z hz)) ?_)
  rw [Nat.pow_add, Nat.mul_comm (2 ^ n)]
  exact Nat.mul_lt_mul_of_pos_right (by omega) (Nat.two_pow_pos n)
/-! ### _law_number -/
def mixed (c a w : Int) : Int := ((c + 977 * a) * 48271 + w) % 2147483647
def more (c a w : Int) : Int := mixed c a w * (c + 31 * a + 7)
def number (c a w : Int) : Int := if decide (10 ^ (18 : Int).toNat ≤ c) = true then c / (1 + a % 7) else more c a w * (mixed c a w + c + 5) * (mixed c a w * mixed c a w + 11) / (1009 + a)
theorem mixed_ge (c a w : Int) : 0 ≤ mixed c a w := Int.emod_nonneg _ (by decide)
theorem mixed_lt (c a w : Int) : mixed c a w < 2147483647 := Int.emod_lt_of_pos _ (by decide)
theorem more_mul {c a w : Int} {n : Nat} (hn : n ≤ 1100000) (hc : Builtin.Int.intBits c ≤ n) (h0 : 0 ≤ a) (h1 : a ≤ 100) : CMulX (more c a w) (mixed c a w + c + 5) := by
  have h2 := mixed_ge c a w
  have h3 := mixed_lt c a w
  have hc2 : c.natAbs < 2 ^ (n + 32) := Nat.lt_of_lt_of_le (lt_of_bits hc) (Nat.pow_le_pow_right (by decide) (by omega))
  have e32 : (2 : Nat) ^ 32 ≤ 2 ^ (n + 32) := Nat.pow_le_pow_right (by decide) (by omega)
  have hp : (2 : Nat) ^ 32 = 4294967296 := by decide
  rw [hp] at e32
  have f1 : (c + 31 * a + 7).natAbs < 2 ^ (n + 33) := by
    rw [show n + 33 = (n + 32) + 1 from rfl, Nat.pow_succ]
    omega
  have f2 : (mixed c a w + c + 5).natAbs < 2 ^ (n + 33) := by
    rw [show n + 33 = (n + 32) + 1 from rfl, Nat.pow_succ]
    omega
  have f3 : (mixed c a w).natAbs < 2 ^ 32 := by
    rw [hp]
    omega
  exact mulx_ok (wide_lt f3 f1) f2 (by omega)
section
variable {P : Program} {w : World} {K : PySem.W.Frag} {mg : Str → Option Value} {base : Heap}
def spNum : Sp := fun vs H Q _ => ∃ c a v : Int, vs = [.int c, .int a, .int v] ∧ Builtin.Int.intBits c ≤ 1100000 ∧ 0 ≤ a ∧ a ≤ 100 ∧ RetV (.int (number c a v)) H Q
theorem ok_num {f : Addr} {fd : FuncData} (D : Dfn K mg "_law_number" "_law_number" s_law_number ["_law_cell", "_law_at", "_law_whole"] f fd) : FnOk P w K mg base CX0 1 f fd ["_law_cell", "_law_at", "_law_whole"] spNum := by
  refine D.F.ok sc_law_number (fun vs H Q E h => ?_) (fun cdv A outer s H vs Q E hr h => ?_)
  · obtain ⟨c, a, v, rfl, _⟩ := h
    rfl
  · obtain ⟨c, a, v, rfl, hc, h0, h1, k⟩ := h
    refine ⟨_, (pss_cons (ps_if (pt_cmpR op_ge (pv 0) (pe_op op_pow pe_int pe_int) (nomark _))
      (pss_one (ps_ret (pe_op op_fdivW (pv 0) (pe_op op_add pe_int (pe_op op_mod (pv 1) pe_int)))))
      pss_nil)
      (pss_cons (ps_set (i := 3) sc_law_number.nd rfl (by first | exact Or.inl rfl | exact Or.inr rfl) (pe_op op_mod (pe_op op_add (pe_op op_mul (pe_op op_add (pv 0) (pe_op op_mul pe_int (pv 1))) pe_int) (pv 2)) pe_int))
      (pss_cons (ps_set (i := 4) sc_law_number.nd rfl (by first | exact Or.inl rfl | exact Or.inr rfl) (pe_op op_mul (pv 3) (pe_op op_add (pe_op op_add (pv 0) (pe_op op_mul pe_int (pv 1))) pe_int)))
      (pss_one (ps_ret (pe_op op_fdivW (pe_op op_mul (pe_op op_mulX (pv 4) (pe_op op_add (pe_op op_add (pv 3) (pv 0)) pe_int)) (pe_op op_add (pe_op op_mul (pv 3) (pv 3)) pe_int)) (pe_op op_add pe_int (pv 1)))))))), ?_⟩
    have c1 : CDivW c (1 + a % 7) := cdiv_small (by omega) (by omega)
    refine q_when (et_test (by walk_at "ev")) (fun hb H1 e1 => ?_) fun hb H1 e1 => ?_
    · refine s_ret (by walk_at "ev") fun H2 e2 => ?_
      have q := k H2 (e1.trans e2)
      unfold number at q
      rw [if_pos hb] at q
      exact q
    · have hv : number c a v = more c a v * (mixed c a v + c + 5) * (mixed c a v * mixed c a v + 11) / (1009 + a) := by
        unfold number
        rw [if_neg (by rw [hb] <;> exact Bool.false_ne_true)]
      have m0 := mixed_ge c a v
      have m1 := mixed_lt c a v
      have mm : mixed c a v * mixed c a v ≤ 2147483647 * 2147483647 := Int.mul_le_mul (by omega) (by omega) m0 (by decide)
      have mn : 0 ≤ mixed c a v * mixed c a v := Int.mul_nonneg m0 m0
      have c2 : CMul (mixed c a v) (c + 31 * a + 7) := cmul_l (by omega) (by omega)
      have c3 : CMulX (more c a v) (mixed c a v + c + 5) := more_mul (Nat.le_refl _) hc h0 h1
      have c4 : CMul (mixed c a v) (mixed c a v) := cmul_l (by omega) (by omega)
      have c5 : CMul (more c a v * (mixed c a v + c + 5)) (mixed c a v * mixed c a v + 11) := cmul_r (by omega) (by omega)
      have c6 : CDivW (more c a v * (mixed c a v + c + 5) * (mixed c a v * mixed c a v + 11)) (1009 + a) := cdiv_small (by omega) (by omega)
      have c7 : CMul (31 : Int) a := cmul_l (by decide) (by decide)
      refine q_asg (v := .int (mixed c a v)) (ev_is (by walk_at "ev") (by exact rfl)) fun H2 e2 => ?_
      refine q_asg (v := .int (more c a v)) (ev_is (by walk_at "ev") (by exact rfl)) fun H3 e3 => ?_
      refine s_ret (v := .int (more c a v * (mixed c a v + c + 5) * (mixed c a v * mixed c a v + 11) / (1009 + a))) (ev_is (by walk_at "ev") (by exact rfl)) fun H4 e4 => ?_
      have q := k H4 (((e1.trans e2).trans e3).trans e4)
      rw [hv] at q
      exact q
/-! ### _law_marks -/
def cellsOf (ns : List Int) (k : Nat) (d : Int) : List Int := if ns = [] then [d] else ns.take k
theorem cells_yes {ns : List Int} {k : Nat} {d : Int} (h : (!decide (ns = [])) = true) : cellsOf ns k d = ns.take k := by
  unfold cellsOf
  refine if_neg fun e => ?_
  rw [decide_eq_true e] at h
  exact Bool.noConfusion h
theorem cells_no {ns : List Int} {k : Nat} {d : Int} (h : (!decide (ns = [])) = false) : cellsOf ns k d = [d] := by
  unfold cellsOf
  refine if_pos ?_
  cases h2 : decide (ns = []) with
  | true => exact of_decide_eq_true h2
  | false => rw [h2] at h; exact Bool.noConfusion h
theorem cells_len {ns : List Int} {k : Nat} {d : Int} (hk : 1 ≤ k) : (cellsOf ns k d).length ≤ k := by
  unfold cellsOf
  split
  · exact hk
  · rw [List.length_take]; omega
theorem cells_bits {ns : List Int} {k : Nat} {d : Int} {n : Nat} (hd : Builtin.Int.intBits d ≤ n) (h : ∀ z ∈ ns, Builtin.Int.intBits z ≤ n) : ∀ z ∈ cellsOf ns k d, Builtin.Int.intBits z ≤ n := by
  intro z hz
  unfold cellsOf at hz
  split at hz
  · rw [List.mem_singleton.mp hz]
    exact hd
  · exact h z (List.mem_of_mem_take hz)
theorem el_cells {K : PySem.W.Frag} {σ : L2.St} {H : Hp} {hu : R2} {a : Addr} {ns : List Int} {k : Nat} {d : Int} {i : Nat} (hs : σ[i]? = some (some (.ref a))) (hS : SqL K H a (ns.map V.int)) :
    EvL (tIf (tTest (tOp (rNeD K) (tVar i) (tLst tNil))) (tSl (rSlL K) (tVar i) tNoPart (tPart (tC (.int (k : Int))))) (tLst (tCons (tC (.int d)) tNil))) σ H ((cellsOf ns k d).map V.int) := by
  refine el_if (et_test (ev_opL (ev_var hs) (el_lst ea_nil (by decide)) fun p H1 h1 e1 => rv_neLL (ms := []) (ex_l e1 hS) (sq_of h1))) (fun hb => ?_) fun hb => ?_
  · rw [cells_yes hb]
    exact el_cutTake (ev_var hs) (eo_some ev_c) hS
  · rw [cells_no hb]
    exact el_ints [d] (ea_cons ev_c ea_nil) rfl (by show 1 ≤ 100000; decide)
def spMarks (K : PySem.W.Frag) : Sp := fun vs H Q _ => ∃ (a : Addr) (ns : List Int), vs = [.ref a] ∧ SqL K H a (ns.map V.int) ∧ ns.length ≤ 63 ∧ (∀ z ∈ ns, Builtin.Int.intBits z ≤ 1048576) ∧
  ∀ (ms : List Int) (p : Addr) (H2 : Hp), ms.length ≤ 40 → ms.Pairwise (· < ·) → H p = none → Ex H H2 → H2 p = some (.lst (ms.map V.int)) → Q (.ref p) H2
theorem four {W : Int} (a b c d : Int) : ∃ v, (v = a ∨ v = b ∨ v = c ∨ v = d) ∧ atI ([a, b, c, d].map V.int) (W % 4) = some (.int v) := by
  have h : W % 4 = 0 ∨ W % 4 = 1 ∨ W % 4 = 2 ∨ W % 4 = 3 := by omega
  rcases h with h | h | h | h <;> rw [h]
  · exact ⟨a, .inl rfl, rfl⟩
  · exact ⟨b, .inr (.inl rfl), rfl⟩
  · exact ⟨c, .inr (.inr (.inl rfl)), rfl⟩
  · exact ⟨d, .inr (.inr (.inr rfl)), rfl⟩
theorem fourK {k w : Int} (h1 : 1 ≤ k) (h2 : k ≤ 3) (a b c d : Int) : ∃ v, (v = a ∨ v = b ∨ v = c ∨ v = d) ∧ atI ([a, b, c, d].map V.int) (k + w % 2 - 1) = some (.int v) := by
  have h : k + w % 2 - 1 = 0 ∨ k + w % 2 - 1 = 1 ∨ k + w % 2 - 1 = 2 ∨ k + w % 2 - 1 = 3 := by omega
  rcases h with h | h | h | h <;> rw [h]
  · exact ⟨a, .inl rfl, rfl⟩
  · exact ⟨b, .inr (.inl rfl), rfl⟩
  · exact ⟨c, .inr (.inr (.inl rfl)), rfl⟩
  · exact ⟨d, .inr (.inr (.inr rfl)), rfl⟩
theorem three {W : Int} (a b c : Int) : ∃ v, (v = a ∨ v = b ∨ v = c) ∧ atI ([a, b, c].map V.int) (W % 3) = some (.int v) := by
  have h : W % 3 = 0 ∨ W % 3 = 1 ∨ W % 3 = 2 := by omega
  rcases h with h | h | h <;> rw [h]
  · exact ⟨a, .inl rfl, rfl⟩
  · exact ⟨b, .inr (.inl rfl), rfl⟩
  · exact ⟨c, .inr (.inr rfl), rfl⟩
theorem get_ints {cs : List Int} {i : Nat} {x : V} (h : (cs.map V.int)[i]? = some x) : ∃ z ∈ cs, x = .int z ∧ i < cs.length := by
  obtain ⟨h1, h2⟩ := List.getElem?_eq_some_iff.mp h
  rw [List.length_map] at h1
  refine ⟨cs[i], List.getElem_mem h1, ?_, h1⟩
  rw [← h2, List.getElem_map]
end
end K7

namespace K7
open PySem PySem.Spec PyProof.Rows L2 Evl SX SM
local macro_rules | `(tactic| walk_at "cond") => `(tactic| first
  | assumption
  | exact cdiv_small (by decide) (by decide)
  | exact cmul_l (by decide) (by decide)
  | exact cmul_r (by decide) (by decide)
  | exact cpow_c (by decide) (by decide) (by decide)
  | (show (0 : Int) < _; decide)
  | (show (0 : Int) < _; omega))
local macro_rules | `(tactic| walk_at "ev") => `(tactic| first
  | with_reducible exact ev_c
  | ((with_reducible apply ev_var); exact rfl)
  | with_reducible exact ea_nil
  | with_reducible exact eo_none
  | ((with_reducible apply ea_cons) <;> walk_at "ev")
  | ((with_reducible apply eo_some); walk_at "ev")
  | ((with_reducible apply ev_op (hr := rv_I0)) <;> walk_at "ev")
  | ((with_reducible apply ev_op (hr := rv_I ?cnd)); (· walk_at "ev"); (· walk_at "ev"); (· walk_at "cond"))
  | ((with_reducible apply ev_un (hr := ru_neg)); walk_at "ev")
  | ((with_reducible apply ev_op (hr := rv_eq ?cnd)); (· walk_at "ev"); (· walk_at "ev"); (· exact rfl))
  | ((with_reducible apply ev_op (hr := rv_ne ?cnd)); (· walk_at "ev"); (· walk_at "ev"); (· exact rfl))
  | ((with_reducible apply ev_lenI); (· walk_at "ev"); (· assumption))
  | ((with_reducible apply ev_ixL); (· walk_at "ev"); (· walk_at "ev"); (· assumption); (· first | exact atI_nat (j := 0) rfl | exact atI_nat (j := 1) rfl | exact atI_nat (j := 2) rfl))
  | ((with_reducible apply et_test); walk_at "ev")
  | ((with_reducible apply et_B); walk_at "ev"))
local macro_rules | `(tactic| walk_at "tup") => `(tactic| first
  | ((with_reducible apply evp_T [_, _]); (· walk_at "ev"); (· exact rfl); (· show 2 ≤ 100000; decide))
  | ((with_reducible apply evp_T [_]); (· walk_at "ev"); (· exact rfl); (· show 1 ≤ 100000; decide))
  | ((with_reducible apply evp_T [_, _, _]); (· walk_at "ev"); (· exact rfl); (· show 3 ≤ 100000; decide))
  | ((with_reducible apply evp_T []); (· walk_at "ev"); (· exact rfl); (· show 0 ≤ 100000; decide)))
local macro_rules | `(tactic| walk_at "pairs") => `(tactic| first
  | with_reducible exact eal_nil
  | ((with_reducible apply eal_cons PairT.mono); (· ((with_reducible apply evp_pair) <;> walk_at "tup")); (· walk_at "pairs")))
abbrev s_law_plain : Stmt := topS 42
abbrev N_law_plain : List Str := ["_law_thing", "_law_one"]
theorem sc_law_plain : FnScope N_law_plain ["_law_thing"] (defScope s_law_plain) := ⟨rfl, rfl, rfl, by decide +kernel, rfl, by decide +kernel, by decide +kernel⟩
abbrev s_law_truths : Stmt := topS 43
abbrev N_law_truths : List Str := ["_law_things", "_law_one"]
theorem sc_law_truths : FnScope N_law_truths ["_law_things"] (defScope s_law_truths) := ⟨rfl, rfl, rfl, by decide +kernel, rfl, by decide +kernel, by decide +kernel⟩
abbrev s_law_no_of : Stmt := topS 44
abbrev N_law_no_of : List Str := ["_law_ask", "error", "_law_sorts"]
theorem sc_law_no_of : FnScope N_law_no_of ["_law_ask"] (defScope s_law_no_of) := ⟨rfl, rfl, rfl, by decide +kernel, rfl, by decide +kernel, by decide +kernel⟩
section
variable {P : Program} {w : World} {K : PySem.W.Frag} {mg : Str → Option Value} {base : Heap}
/-! ### _law_plain -/
def PlV : Nat → V → Hp → Prop
  | 0, v, _ => v = .non ∨ ∃ i, v = .int i
  | k + 1, v, H => (v = .non ∨ ∃ i, v = .int i) ∨ ∃ p xs, v = .ref p ∧ (H p = some (.lst xs) ∨ H p = some (.tup xs)) ∧ xs.length ≤ 40000 ∧ ∀ x ∈ xs, PlV k x H
theorem PlV.mono : ∀ k : Nat, Mono (PlV k)
  | 0, _, _, _, _, h => h
  | k + 1, v, H, H', e, h => h.imp id fun ⟨p, xs, h1, h2, h3, h4⟩ => ⟨p, xs, h1, h2.imp (e p _) (e p _), h3, fun x hx => PlV.mono k x H H' e (h4 x hx)⟩
def spPlain : Nat → Sp
  | 0 => fun _ _ _ _ => False
  | k + 1 => fun vs H Q _ => ∃ v, vs = [v] ∧ PlV k v H ∧ RetV (.bl true) H Q
theorem all_true (n : Nat) : (((List.range n).map fun _ => true).all id) = true := by
  rw [List.all_eq_true]
  intro b hb
  obtain ⟨_, _, rfl⟩ := List.mem_map.mp hb
  rfl
theorem ok_plain {f : Addr} {fd : FuncData} (D : Dfn K mg "_law_plain" "_law_plain" s_law_plain ["_law_thing"] f fd) (T : Tx mg) : ∀ k : Nat, FnOk P w K mg base CX0 k f fd ["_law_thing"] (spPlain k)
  | 0 => ⟨fun _ _ _ _ h => h.elim, fun _ _ _ _ _ _ _ _ _ _ _ _ _ h => h.elim⟩
  | k + 1 => by
    have G_law_plain := ok_plain D T k
    have D_law_plain := D
    refine D.F.ok sc_law_plain (fun vs H Q E h => ?_) (fun cdv A outer s H vs Q E hr h => ?_)
    · obtain ⟨v, rfl, _⟩ := h
      rfl
    · obtain ⟨v, rfl, hv, q⟩ := h
      refine ⟨_, (pss_cons (ps_if (PW.pt (pw_or (pt_val (pe_callB call_isi (by rfl) T.b_isinstance (by decide +kernel) (pa_cons (pv 0) (pa_cons (pe_bltn (v := .ty "list") (by rfl) T.b_list (by decide +kernel) rfl) pa_nil)))) (pw_or1 (pt_val (pe_callB call_isi (by rfl) T.b_isinstance (by decide +kernel) (pa_cons (pv 0) (pa_cons (pe_bltn (v := .ty "tuple") (by rfl) T.b_tuple (by decide +kernel) rfl) pa_nil)))))))
      (pss_one (ps_ret (SX.pe_either (pe_callB (cr_all rfl) (by rfl) T.b_all (by decide +kernel) (pa_cons (pe_lc (own := [("_law_one", 1)]) (g := gName 1) rfl sc_law_plain.nd (pi_list (pv 0)) (blkOk_by (N := N_law_plain) (sc := defScope s_law_plain) (by decide +kernel)) (fun _ _ _ _ _ => (pg_name (i := 1) sc_law_plain.nd rfl (by first | exact Or.inl rfl | exact Or.inr rfl))) (fun _ _ _ _ _ => pts_nil) (fun _ _ _ _ _ => (pe_call G_law_plain (hr.mono (Nat.le_refl _)) (by rfl) D_law_plain.g D_law_plain.F.kp D_law_plain.b .nil pass0 (pa_cons (pv 1) pa_nil)))) pa_nil)) (pe_callB (cr_all rfl) (by rfl) T.b_all (by decide +kernel) (pa_cons (pe_lc (own := [("_law_one", 1)]) (g := gName 1) rfl sc_law_plain.nd (pi_tup (pv 0)) (blkOk_by (N := N_law_plain) (sc := defScope s_law_plain) (by decide +kernel)) (fun _ _ _ _ _ => (pg_name (i := 1) sc_law_plain.nd rfl (by first | exact Or.inl rfl | exact Or.inr rfl))) (fun _ _ _ _ _ => pts_nil) (fun _ _ _ _ _ => (pe_call G_law_plain (hr.mono (Nat.le_refl _)) (by rfl) D_law_plain.g D_law_plain.F.kp D_law_plain.b .nil pass0 (pa_cons (pv 1) pa_nil)))) pa_nil)))))
      pss_nil)
      (pss_one (ps_ret (pe_or (pe_cmpR op_isN (pv 0) pe_non (nomark _)) (pe_or (pe_callB call_isi (by rfl) T.b_isinstance (by decide +kernel) (pa_cons (pv 0) (pa_cons (pe_bltn (v := .ty "str") (by rfl) T.b_str (by decide +kernel) rfl) pa_nil))) (pe_one (pe_and (pe_callB call_isi (by rfl) T.b_isinstance (by decide +kernel) (pa_cons (pv 0) (pa_cons (pe_bltn (v := .ty "int") (by rfl) T.b_int (by decide +kernel) rfl) pa_nil))) (pe_one (pe_not (pe_callB call_isi (by rfl) T.b_isinstance (by decide +kernel) (pa_cons (pv 0) (pa_cons (pe_bltn (v := .ty "bool") (by rfl) T.b_bool (by decide +kernel) rfl) pa_nil)))))))))))), ?_⟩
      have isi : ∀ {H1 : Hp} {n : String} {b : Bool} {t : String}, (∀ H2, Ex H1 H2 → TyX K H2 v (.type t)) → kitB t n = some b → Ev (tCB (rIsi K) (tCons (tVar 0) (tCons (tC (.ty n)) tNil))) [some v, none] H1 (.bl b) := fun ht hk => ev_cb (ea_cons (ev_var rfl) (ea_cons ev_c ea_nil)) (rc_isiAs ht hk)
      have sc : (v = .non ∨ ∃ i, v = .int i) ∨ ∃ (j : Nat) (p : Addr) (xs : List V), k = j + 1 ∧ v = .ref p ∧ (H p = some (.lst xs) ∨ H p = some (.tup xs)) ∧ xs.length ≤ 40000 ∧ ∀ x ∈ xs, PlV j x H := by
        cases k with
        | zero => exact .inl hv
        | succ j => exact hv.imp id fun ⟨p, xs, h⟩ => ⟨j, p, xs, rfl, h⟩
      rcases sc with (rfl | ⟨i, rfl⟩) | ⟨j, p, xs, rfl, rfl, hp, hl, hx⟩
      · refine q_when (b := false) (et_or (a := false) (b := false) (et_B (isi (fun _ _ => .base .non) (by decide +kernel))) fun _ => et_B (isi (fun _ _ => .base .non) (by decide +kernel))) (fun h => nomatch h) fun _ H1 e1 => ?_
        exact s_ret (v := .bl true) (ev_orV (a := true) (b := true) (ev_op (ev_var rfl) ev_c rv_isN2) fun h => nomatch h) fun H2 e2 => q H2 (e1.trans e2)
      · refine q_when (b := false) (et_or (a := false) (b := false) (et_B (isi (fun _ _ => .base (.int i)) (by decide +kernel))) fun _ => et_B (isi (fun _ _ => .base (.int i)) (by decide +kernel))) (fun h => nomatch h) fun _ H1 e1 => ?_
        exact s_ret (v := .bl true) (ev_orV (a := false) (b := true) (ev_op (ev_var rfl) ev_c rv_isN2) fun _ => ev_orV (a := false) (b := true) (isi (fun _ _ => .base (.int i)) (by decide +kernel)) fun _ => ev_andV (a := true) (b := true) (isi (fun _ _ => .base (.int i)) (by decide +kernel)) fun _ => ev_notV (a := false) (isi (fun _ _ => .base (.int i)) (by decide +kernel))) fun H2 e2 => q H2 (e1.trans e2)
      · have one : ∀ (i : Nat) (x : V) (H1 : Hp), Ex H H1 → xs[i]? = some x → Ev (tCall (spPlain (j + 1)) [] E0 (tCons (tVar 1) tNil)) ((wipe [some (.ref p), none] [1]).set 1 (some x)) H1 (.bl true) := fun i x H1 e1 hi => ev_call (ea_cons (ev_var rfl) ea_nil) fun H2 e2 Q2 q2 E2 => ⟨x, rfl, PlV.mono j _ _ _ (e1.trans e2) (hx x (List.mem_of_getElem? hi)), q2⟩
        rcases hp with hp | hp
        · refine q_when (b := true) (et_or (a := true) (b := true) (et_B (isi (fun H2 e2 => .base (.lst (e2 p _ hp))) (by decide +kernel))) fun h => nomatch h) (fun _ H1 e1 => ?_) fun h => nomatch h
          have hp1 := e1 p _ hp
          refine s_ret (v := .bl true) (ev_e1 (ev_is (ev_allN (bs := (List.range xs.length).map fun _ => true) ?_) (congrArg V.bl (all_true _)))) fun H2 e2 => q H2 (e1.trans e2)
          rw [← given_bl]
          exact el_lcL (fun _ => true) (fun _ => .bl true) (ev_var rfl) (sq_of hp1) hl (fun x => rfl) (fun i x H3 e3 hi => ev_yes) fun i x H3 e3 hi _ => one i x H3 (e1.trans e3) hi
        · refine q_when (b := true) (et_or (a := false) (b := true) (et_B (isi (fun H2 e2 => .base (.tup (e2 p _ hp))) (by decide +kernel))) fun _ => et_B (isi (fun H2 e2 => .base (.tup (e2 p _ hp))) (by decide +kernel))) (fun _ H1 e1 => ?_) fun h => nomatch h
          have hp1 := e1 p _ hp
          refine s_ret (v := .bl true) (ev_e2 (ev_is (ev_allN (bs := (List.range xs.length).map fun _ => true) ?_) (congrArg V.bl (all_true _)))) fun H2 e2 => q H2 (e1.trans e2)
          rw [← given_bl]
          exact el_lcT (fun _ => .bl true) (evp_ev (ev_var rfl) fun H3 e3 => ⟨p, rfl, e3 p _ hp1⟩) hl (fun x => rfl) fun i x H3 e3 hi => one i x H3 (e1.trans e3) hi
/-! ### _law_truths -/
def spTruths : Sp := fun vs H Q _ => ∃ (p : Addr) (bs : List Bool), vs = [.ref p] ∧ H p = some (.lst (bs.map V.bl)) ∧ bs.length ≤ 40000 ∧ RetV (.bl true) H Q
theorem ok_truths {f : Addr} {fd : FuncData} (D : Dfn K mg "_law_truths" "_law_truths" s_law_truths ["_law_things"] f fd) (T : Tx mg) : FnOk P w K mg base CX0 1 f fd ["_law_things"] spTruths := by
  refine D.F.ok sc_law_truths (fun vs H Q E h => ?_) (fun cdv A outer s H vs Q E hr h => ?_)
  · obtain ⟨p, bs, rfl, _⟩ := h
    rfl
  · obtain ⟨p, bs, rfl, hp, hl, q⟩ := h
    refine ⟨_, (pss_one (ps_ret (pe_callB (cr_all rfl) (by rfl) T.b_all (by decide +kernel) (pa_cons (pe_lc (own := [("_law_one", 1)]) (g := gName 1) rfl sc_law_truths.nd (pi_list (pv 0)) (blkOk_by (N := N_law_truths) (sc := defScope s_law_truths) (by decide +kernel)) (fun _ _ _ _ _ => (pg_name (i := 1) sc_law_truths.nd rfl (by first | exact Or.inl rfl | exact Or.inr rfl))) (fun _ _ _ _ _ => pts_nil) (fun _ _ _ _ _ => (pe_callB (SX.call_isiK2 (K := K)) (by rfl) T.b_isinstance (by decide +kernel) (pa_cons (pv 1) (pa_cons (pe_bltn (v := .ty "bool") (by rfl) T.b_bool (by decide +kernel) rfl) pa_nil))))) pa_nil)))), ?_⟩
    refine s_ret (v := .bl true) (ev_is (ev_allN (bs := (List.range (bs.map V.bl).length).map fun _ => true) ?_) (congrArg V.bl (all_true _))) fun H2 e2 => q H2 e2
    rw [← given_bl]
    refine el_lcL (fun _ => true) (fun _ => .bl true) (ev_var rfl) (sq_of hp) (by rw [List.length_map]; exact hl) (fun x => rfl) (fun i x H3 e3 hi => ev_yes) fun i x H3 e3 hi _ => ?_
    obtain ⟨hi1, hi⟩ := List.getElem?_eq_some_iff.mp hi
    rw [List.getElem_map] at hi
    subst hi
    exact ev_cb (ea_cons (ev_var rfl) (ea_cons ev_c ea_nil)) (rc_isiBl (by decide +kernel))
/-! ### _law_no_of -/
structure KN (K : PySem.W.Frag) (C CM CK CN : Addr) (b1 b2 : Bool) : Prop where
  e : ExcC K C
  x : PySem.W.exmOne K (.ref C) (.ref CM) = some true
  k : PySem.W.kitOne K (.ref C) (.ref CK) = some b1
  n : PySem.W.kitOne K (.ref C) (.ref CN) = some b2
/-- what is asked raises NoMark or NotApart: told by its word -/
def TTno (CK CN : Addr) : (XK → Hp → VK → Prop) → Hp → VK → Prop := fun tl H Q => tl (fun cls d H' => d = none ∧ ((cls = .ref CK ∧ ∀ H2, Ex H' H2 → Q (.str "mark") H2) ∨ (cls = .ref CN ∧ ∀ H2, Ex H' H2 → Q (.str "apart") H2))) H (fun _ H' => Q (.str "") H')
theorem rv_eqI {H : Hp} {i j : Int} : RV rEq (.int i) (.int j) H (.bl (decide (V.int i = V.int j))) := rv_eq rfl
theorem ex_one {X : Cx} {st : Stmt} {ss : List Stmt} {D : Ends} {σ : L2.St} {H : Hp} (hss : ss = [st]) {t : TS} (h1 : PS X st t) (h2 : t D σ H) : ∃ t, PSs X ss t ∧ t D σ H := by
  subst hss
  exact ⟨t, pss_one h1, h2⟩
theorem no_gives {X : Cx} {g CM CK CN : Addr} {q : Str} (T : Tx X.mg) (X_MarkError : XC X.K X.mg "MarkError" CM) (X_NoMark : XC X.K X.mg "NoMark" CK) (X_NotApart : XC X.K X.mg "NotApart" CN) (KK : KN X.K CK CM CK CN true false) (KA : KN X.K CN CM CK CN false true) :
    ∀ cdv, LamX.GivesTo X N_law_no_of "_law_no_of" (defScope s_law_no_of) g cdv (defBody s_law_no_of) "_law_ask" q (TTno CK CN) := by
  intro cdv f c' s H Q tl act hc h
  generalize hK : X.K = K at *
  have hbody : ∀ (W : WX) (pn : List (Addr × Obj)) (xe : Value → Shared → Prop), L2.Takes ((cxOf C8.CX0 X.prog X.w K X.mg X.base N_law_no_of "_law_no_of" (defScope s_law_no_of) g cdv X.A X.stack s H C8.E0).nox.tr pn xe) W → ∀ p1 p2 p3 p4 p5 : Pos, ∀ n : Nat,
      PSs ((cxOf C8.CX0 X.prog X.w K X.mg X.base N_law_no_of "_law_no_of" (defScope s_law_no_of) g cdv X.A X.stack s H C8.E0).nox.tr pn xe) [.Expr (.Call (.Name "_law_ask" p1) [] [] p2) p3, .Return (some (.Constant (.str "") n p4)) p5]
        (fun D σ H' => ∃ Ech : XK, (∀ cls d σ' H', Ech cls d H' → σ'.length = 3 → W cls d σ' H') ∧ σ[0]? = some (some (.ref f)) ∧ H' c' = some (LamX.CodeO c' q) ∧ tl Ech H' (fun _ H' => D.rt (.str "") H')) := by
    intro W pn xe tk p1 p2 p3 p4 p5 n
    refine ⟨fun pins s' σ H' D I h' => ?_⟩
    obtain ⟨Ech, hW, h1, h2, h3⟩ := h'
    have hp := act (fun cls d σ H => σ.length = 3 → W cls d σ H) pn xe Ech p1 p2 (takesL (by rfl) tk) hW
    exact (pss_cons (ps_expr (pos := p3) hp) (pss_one (ps_ret (pos := p5) (pe_str (pos := p4))))).run pins s' σ H' D I ⟨h1, h2, h3⟩
  refine ex_one rfl (L2.ps_try_as (i := 1) rfl rfl sc_law_no_of.nd rfl rfl ⟨by rfl, by decide, .inl X_MarkError.g⟩ L2.takes0 (fun W pn xe tk po => hbody W pn xe tk _ _ _ _ _ _) (fun a oe cls d pn hz hf => (pss_cons (ps_set (i := 2) sc_law_no_of.nd rfl (by first | exact Or.inl rfl | exact Or.inr rfl) (pe_lst (pa_cons (pe_callB (SX.isi_z hz hf) (by rfl) T.b_isinstance (by decide +kernel) (pa_cons (pv 1) (pa_cons (pe_glob (v := .ref _) (by rfl) X_NoMark.g rfl) pa_nil))) (pa_cons (pe_callB (SX.isi_z hz hf) (by rfl) T.b_isinstance (by decide +kernel) (pa_cons (pv 1) (pa_cons (pe_glob (v := .ref _) (by rfl) X_NotApart.g rfl) pa_nil))) pa_nil))))
        (pss_one (ps_ret (pe_ifExp (pt_cmpR op_eq (SX.pe_bmK (K := K) PySem.F.plainAttrs_list PySem.F.slot_list_count PySem.F.type_list_count (SX.mt_lcntFK (K := K)) (pv 2) (pa_cons pe_bl pa_nil)) pe_int (nomark _)) (pe_ix (SX.ix_listK (K := K)) (pe_lst (pa_cons pe_str (pa_cons pe_str pa_nil))) (SX.pe_bmK (K := K) PySem.F.plainAttrs_list PySem.F.slot_list_index PySem.F.type_list_index (SX.mt_indexK (K := K)) (pv 2) (pa_cons pe_bl pa_nil)) (fun _ _ => rfl)) pe_str)))))) ?_
  refine ⟨fun cls d H' => d = none ∧ ((cls = .ref CK ∧ ∀ H2, Ex H' H2 → Q (.str "mark") H2) ∨ (cls = .ref CN ∧ ∀ H2, Ex H' H2 → Q (.str "apart") H2)), fun cls d σ' H' hE hl => ?_, rfl, hc, ?_⟩
  · obtain ⟨x0, x1, x2, rfl⟩ : ∃ x0 x1 x2, σ' = [x0, x1, x2] := by
      match σ', hl with
      | [x0, x1, x2], _ => exact ⟨x0, x1, x2, rfl⟩
    obtain ⟨rfl, hE⟩ := hE
    have cnt : ∀ {σ : L2.St} {H1 : Hp} {l : Addr} {b1 b2 : Bool} {n : Int}, σ[2]? = some (some (.ref l)) → H1 l = some (.lst [.bl b1, .bl b2]) → (([V.bl b1, V.bl b2].countP fun z => eqV z (.bl true) : Nat) : Int) = n → Ev (tBM K "list" (rCntF K) (tVar 2) (tCons (tC (.bl true)) tNil)) σ H1 (.int n) := fun hs hl hn => by
      subst hn
      exact ev_bmL (ev_var hs) (sq_of hl) (ea_cons ev_c ea_nil) fun H2 e2 Q q => ⟨_, _, _, rfl, rfl, ex_l e2 (sq_of hl), rfl, rfl, q H2 (Ex.refl _)⟩
    have fin : ∀ {C : Addr} {b1 b2 : Bool} {word : Str} {D : Ends} (KX : KN K C CM CK CN b1 b2), (b1 = true ∧ b2 = false ∧ word = "mark") ∨ (b1 = false ∧ b2 = true ∧ word = "apart") → (∀ H2, Ex H' H2 → D.rt (.str word) H2) → ∀ a : Addr,
        tSeq (tAsg (tLst (tCons (tCB (rIsE2 K (.ref C) none a) (tCons (tVar 1) (tCons (tC (.ref CK)) tNil))) (tCons (tCB (rIsE2 K (.ref C) none a) (tCons (tVar 1) (tCons (tC (.ref CN)) tNil))) tNil))) (gName 2))
          (tRet (tIf (tTest (tOp rEq (tBM K "list" (rCntF K) (tVar 2) (tCons (tC (.bl true)) tNil)) (tC (.int 1)))) (tOp (rIxL K) (tLst (tCons (tC (.str "mark")) (tCons (tC (.str "apart")) tNil))) (tBM K "list" (rIndex K) (tVar 2) (tCons (tC (.bl true)) tNil))) (tC (.str "other"))))
          D [x0, some (.ref a), x2] H' := fun {C b1 b2 word D} KX hb k a => by
      refine q_asgL (el_lst (vs := [.bl b1, .bl b2]) (ea_cons (ev_isE KX.e (ev_var rfl) ev_c KX.k) (ea_cons (ev_isE KX.e (ev_var rfl) ev_c KX.n) ea_nil)) (by show 2 ≤ 100000; decide)) fun l H1 hl1 e1 h1 => ?_
      rcases hb with ⟨rfl, rfl, rfl⟩ | ⟨rfl, rfl, rfl⟩
      · refine s_ret (v := .str "mark") (ev_if (b := true) (et_is (et_test (ev_op (cnt (n := 1) rfl h1 (by decide)) ev_c rv_eqI)) (by rfl)) (fun _ => ev_opL1 (el_lst (vs := [.str "mark", .str "apart"]) (ea_cons ev_c (ea_cons ev_c ea_nil)) (by show 2 ≤ 100000; decide)) (fun H2 e2 => ev_bmL (z := .int 0) (ev_var rfl) (sq_of (e2 l _ h1)) (ea_cons ev_c ea_nil) fun H3 e3 Q q => ⟨_, _, _, 0, _, rfl, rfl, ex_l e3 (sq_of (e2 l _ h1)), rfl, rfl, rfl, rfl, fun m z hm => absurd hm (Nat.not_lt_zero m), q H3 (Ex.refl _)⟩) fun p H2 h2 e2 => rv_ixL (sq_of h2) (atI_nat (j := 0) rfl)) fun h => nomatch h) fun H2 e2 => k H2 (e1.trans e2)
      · refine s_ret (v := .str "apart") (ev_if (b := true) (et_is (et_test (ev_op (cnt (n := 1) rfl h1 (by decide)) ev_c rv_eqI)) (by rfl)) (fun _ => ev_opL1 (el_lst (vs := [.str "mark", .str "apart"]) (ea_cons ev_c (ea_cons ev_c ea_nil)) (by show 2 ≤ 100000; decide)) (fun H2 e2 => ev_bmL (z := .int 1) (ev_var rfl) (sq_of (e2 l _ h1)) (ea_cons ev_c ea_nil) fun H3 e3 Q q => ⟨_, _, _, 1, _, rfl, rfl, ex_l e3 (sq_of (e2 l _ h1)), rfl, rfl, rfl, rfl, fun m z hm hz => (by
          obtain rfl : m = 0 := by omega
          obtain rfl : V.bl false = z := Option.some.inj hz
          rfl), q H3 (Ex.refl _)⟩) fun p H2 h2 e2 => rv_ixL (sq_of h2) (atI_nat (j := 1) rfl)) fun h => nomatch h) fun H2 e2 => k H2 (e1.trans e2)
    rcases hE with ⟨rfl, k⟩ | ⟨rfl, k⟩
    · exact ⟨true, KK.x, fun _ a ha => fin KK (.inl ⟨rfl, rfl, rfl⟩) k a, fun h => nomatch h⟩
    · exact ⟨true, KA.x, fun _ a ha => fin KA (.inr ⟨rfl, rfl, rfl⟩) k a, fun h => nomatch h⟩
  · exact h
end
end K7

namespace K7
open PySem PySem.Spec PyProof.Rows L2 Evl SX SM
local macro_rules | `(tactic| walk_at "cond") => `(tactic| first
  | assumption
  | exact cdiv_small (by decide) (by decide)
  | exact cmul_l (by decide) (by decide)
  | exact cmul_r (by decide) (by decide)
  | exact cpow_c (by decide) (by decide) (by decide)
  | (show (0 : Int) < _; decide)
  | (show (0 : Int) < _; omega))
local macro_rules | `(tactic| walk_at "ev") => `(tactic| first
  | with_reducible exact ev_c
  | ((with_reducible apply ev_var); exact rfl)
  | with_reducible exact ea_nil
  | with_reducible exact eo_none
  | ((with_reducible apply ea_cons) <;> walk_at "ev")
  | ((with_reducible apply eo_some); walk_at "ev")
  | ((with_reducible apply ev_op (hr := rv_I0)) <;> walk_at "ev")
  | ((with_reducible apply ev_op (hr := rv_I ?cnd)); (· walk_at "ev"); (· walk_at "ev"); (· walk_at "cond"))
  | ((with_reducible apply ev_un (hr := ru_neg)); walk_at "ev")
  | ((with_reducible apply ev_op (hr := rv_eq ?cnd)); (· walk_at "ev"); (· walk_at "ev"); (· exact rfl))
  | ((with_reducible apply ev_op (hr := rv_ne ?cnd)); (· walk_at "ev"); (· walk_at "ev"); (· exact rfl))
  | ((with_reducible apply ev_lenI); (· walk_at "ev"); (· assumption))
  | ((with_reducible apply ev_ixL); (· walk_at "ev"); (· walk_at "ev"); (· assumption); (· first | exact atI_nat (j := 0) rfl | exact atI_nat (j := 1) rfl | exact atI_nat (j := 2) rfl))
  | ((with_reducible apply et_test); walk_at "ev")
  | ((with_reducible apply et_B); walk_at "ev"))
local macro_rules | `(tactic| walk_at "tup") => `(tactic| first
  | ((with_reducible apply evp_T [_, _]); (· walk_at "ev"); (· exact rfl); (· show 2 ≤ 100000; decide))
  | ((with_reducible apply evp_T [_]); (· walk_at "ev"); (· exact rfl); (· show 1 ≤ 100000; decide))
  | ((with_reducible apply evp_T [_, _, _]); (· walk_at "ev"); (· exact rfl); (· show 3 ≤ 100000; decide))
  | ((with_reducible apply evp_T []); (· walk_at "ev"); (· exact rfl); (· show 0 ≤ 100000; decide)))
local macro_rules | `(tactic| walk_at "pairs") => `(tactic| first
  | with_reducible exact eal_nil
  | ((with_reducible apply eal_cons PairT.mono); (· ((with_reducible apply evp_pair) <;> walk_at "tup")); (· walk_at "pairs")))
section
variable {K : PySem.W.Frag} {σ : L2.St} {H : Hp} {ta tb te : TE} {D : Ends} {tz tu : TS}
/-! ### lists of ints alike -/
theorem et_neII {ns ms : List Int} (ha : EvL ta σ H (ns.map V.int)) (hb : EvL tb σ H (ms.map V.int)) (e : ns = ms) : EvT (tTest (tOp (rNeD K) ta tb)) σ H false :=
  et_is (et_test (ev_opLL ha hb fun p q H1 hp hq _ => rv_neLL (sq_of hp) (sq_of hq))) (by rw [decide_eq_true e] <;> rfl)
theorem el_lcR1i {t1 : TA} {j n : Nat} {vs : List Nat} (f : Nat → Int) (h : EvA t1 σ H [.int (n : Int)]) (hn : n ≤ 40000) (hw : ∀ x, wipe ((wipe σ vs).set j (some x)) vs = wipe σ vs)
    (he : ∀ (i : Nat) H1, Ex H H1 → i < n → Ev te ((wipe σ vs).set j (some (.int (i : Int)))) H1 (.int (f i))) : EvL (tLc (iRng1 t1) (gName j) tYes te vs) σ H (((List.range n).map f).map V.int) := by
  have h1 := el_lcR1 (te := te) (t := tYes) (σ := σ) (H := H) (j := j) (vs := vs) (n := (n : Int)) (fun _ => true) (fun i => .int (f i)) h ⟨by omega, by omega⟩ hw (fun i H1 e hi => ev_yes) fun i H1 e hi _ => he i H1 e (by omega)
  rw [given_int] at h1
  exact h1
/-! ### pairs of ints or None, a list of them -/
def OptAll : List (Option (Int × Int)) → List V → Hp → Prop
  | [], xs, _ => xs = []
  | o :: os, xs, H => ∃ x r, xs = x :: r ∧ OptV o x H ∧ OptAll os r H
theorem OptAll.mono : ∀ (os : List (Option (Int × Int))) (xs : List V) (H H' : Hp), Ex H H' → OptAll os xs H → OptAll os xs H'
  | [], _, _, _, _, h => h
  | o :: os, _, _, _, e, ⟨x, r, h1, h2, h3⟩ => ⟨x, r, h1, OptV.mono _ _ _ e h2, OptAll.mono os r _ _ e h3⟩
theorem optAll_dp : ∀ (os : List (Option (Int × Int))) (xs : List V), OptAll os xs H → DpAll K H xs (os.map optD)
  | [], xs, h => by
    have h : xs = [] := h
    subst h
    exact .nil
  | o :: os, xs, ⟨x, r, h1, h2, h3⟩ => by
    subst h1
    exact .cons (opt_dp h2) (optAll_dp os r h3)
theorem optAll_eq : ∀ os : List (Option (Int × Int)), PyData.eqvAll (os.map optD) (os.map optD) = true
  | [] => by simp [PyData.eqvAll]
  | o :: os => by
    simp only [List.map_cons, PyData.eqvAll, optAll_eq os, optD_eq, decide_true, Bool.and_self]
theorem optD_depth (o : Option (Int × Int)) : PyData.depth (optD o) ≤ 1 := by
  cases o <;> simp [optD, PyData.depth, PyData.depthAll]
theorem optD_lay (o : Option (Int × Int)) : PyData.canLay0 (optD o) = true := by
  cases o <;> simp [optD, PyData.canLay0, PyData.canLayAll0]
theorem optAll_lay : ∀ os : List (Option (Int × Int)), PyData.canLayAll0 (os.map optD) = true
  | [] => by simp [PyData.canLayAll0]
  | o :: os => by simp [PyData.canLayAll0, optD_lay o, optAll_lay os]
theorem optAll_depth : ∀ os : List (Option (Int × Int)), PyData.depthAll (os.map optD) ≤ 1
  | [] => by simp [PyData.depthAll]
  | o :: os => by
    have h1 := optD_depth o
    have h2 := optAll_depth os
    simp only [List.map_cons, PyData.depthAll]
    omega
theorem optAll_shaped (os : List (Option (Int × Int))) : SeqAt.shaped (.list (os.map optD)) = true := by
  have h := optAll_depth os
  simp [SeqAt.shaped, PyData.canLay0, PyData.depth, optAll_lay os]
  omega
def LstO (os : List (Option (Int × Int))) : V → Hp → Prop := fun v H => ∃ p xs, v = .ref p ∧ H p = some (.lst xs) ∧ OptAll os xs H
theorem LstO.mono {os : List (Option (Int × Int))} : Mono (LstO os) := fun _ _ _ e ⟨p, xs, h1, h2, h3⟩ => ⟨p, xs, h1, e p _ h2, OptAll.mono _ _ _ _ e h3⟩
theorem rv_neOO {os : List (Option (Int × Int))} {x y : V} (hx : LstO os x H) (hy : LstO os y H) : RV (rNeD K) x y H (.bl false) := fun H1 e Q k => by
  obtain ⟨p, xs, rfl, hp, h1⟩ := LstO.mono _ _ _ e hx
  obtain ⟨q, ys, rfl, hq, h2⟩ := LstO.mono _ _ _ e hy
  refine ⟨_, _, .lst (sq_of hp) (optAll_dp os xs h1), .lst (sq_of hq) (optAll_dp os ys h2), optAll_shaped os, optAll_shaped os, ?_⟩
  rw [PyData.eqv, optAll_eq]
  exact k H1 (Ex.refl H1)
theorem eoa_nil : EvAP tNil σ H (OptAll []) := fun H1 _ _ q => q [] H1 (Ex.refl H1) rfl
theorem eoa_cons {o : Option (Int × Int)} {os : List (Option (Int × Int))} {tr : TA} (h : EvP te σ H (OptV o)) (hr : EvAP tr σ H (OptAll os)) : EvAP (tCons te tr) σ H (OptAll (o :: os)) := fun H1 e Q q =>
  h H1 e _ fun v H2 e2 hp => hr H2 (e.trans e2) _ fun vs H3 e3 hR => q _ H3 (e2.trans e3) ⟨v, vs, rfl, OptV.mono _ _ _ e3 hp, hR⟩
theorem evp_lstO {os : List (Option (Int × Int))} {t1 : TA} (h : EvAP t1 σ H (OptAll os)) (hn : os.length ≤ 1000) : EvP (tLst t1) σ H (LstO os) := fun H1 e Q q =>
  h H1 e _ fun vs H2 e2 hR => ⟨sz_of (by
    have key : ∀ (os : List (Option (Int × Int))) (xs : List V), OptAll os xs H2 → xs.length = os.length := fun os => by
      induction os with
      | nil => intro xs h; have h : xs = [] := h; rw [h] <;> rfl
      | cons o os ih => rintro xs ⟨x, r, rfl, _, h⟩; rw [List.length_cons, List.length_cons, ih r h]
    rw [key os vs hR]
    omega), fun p hp => q _ _ (e2.trans (Ex.new hp)) ⟨p, vs, rfl, upd_same, OptAll.mono _ _ _ _ (Ex.new hp) hR⟩⟩
theorem eo_pair {a b : Int} {t1 : TA} {vs : List V} (h : EvA t1 σ H vs) (e : vs = [a, b].map V.int) : EvP (tTup t1) σ H (OptV (some (a, b))) := evp_evU (eu_ints [a, b] h e (by show 2 ≤ 100000; decide)) fun p H1 _ hp => ⟨p, rfl, hp⟩
theorem eo_non : EvP (tC .non) σ H (OptV none) := evp_ev ev_c fun _ _ => rfl
theorem optAll_of : ∀ (ps : List (Int × Option (Int × Int))) (xs : List V), xs.length = ps.length → (∀ (i : Nat) (x : V), xs[i]? = some x → ∃ q, ps[i]? = some q ∧ OptV q.2 x H) → OptAll (ps.map (·.2)) xs H
  | [], xs, hl, _ => List.eq_nil_of_length_eq_zero hl
  | p :: ps, [], hl, _ => nomatch hl
  | p :: ps, x :: xs, hl, h => by
    obtain ⟨q, hq, ho⟩ := h 0 x rfl
    obtain rfl : p = q := Option.some.inj hq
    exact ⟨x, xs, rfl, ho, optAll_of ps xs (Nat.succ.inj hl) fun i y hy => h (i + 1) y hy⟩
theorem optV_keep {o : Option (Int × Int)} {v : V} {H H' : Hp} (k : KeepT H H') (h : OptV o v H) : OptV o v H' := match o, h with
  | none, h => h
  | some p, ⟨q, h, h2⟩ => ⟨q, h, k _ _ h2⟩
/-- [e for t in (..)], each a pair or None told by its number -/
theorem evp_lcO {t1 : TE} {j : Nat} {vs : List Nat} (ps : List (Int × Option (Int × Int))) (h : EvU t1 σ H ((ps.map (·.1)).map V.int)) (hz : ps.length ≤ 40000) (hw : ∀ x, wipe ((wipe σ vs).set j (some x)) vs = wipe σ vs)
    (he : ∀ (q : Int × Option (Int × Int)) H1, Ex H H1 → q ∈ ps → EvP te ((wipe σ vs).set j (some (.int q.1))) H1 (OptV q.2)) : EvP (tLc (iTup K t1) (gName j) tYes te vs) σ H (LstO (ps.map (·.2))) :=
  (evp_lcT (K := K) (R := fun i v H => ∃ q, ps[i]? = some q ∧ OptV q.2 v H) (fun i x H H' k ⟨q, h1, h2⟩ => ⟨q, h1, optV_keep k h2⟩) h (by rw [List.length_map, List.length_map]; exact hz) hw fun i x H1 e _ hx => by
    obtain ⟨hi, hx⟩ := List.getElem?_eq_some_iff.mp hx
    rw [List.getElem_map, List.getElem_map] at hx
    subst hx
    rw [List.length_map, List.length_map] at hi
    exact (he ps[i] H1 e (List.getElem_mem hi)).imp fun v H2 _ h => ⟨ps[i], List.getElem?_eq_getElem hi, h⟩).imp fun v H1 _ ⟨p, xs, h1, h2, h3, h4⟩ => ⟨p, xs, h1, h2, optAll_of ps xs (by rw [h3, List.length_map, List.length_map]) h4⟩
/-! ### what is told of sums and differences of 3's marks -/
def IsTwo (p t : Int) (o : Option (Int × Int)) : Prop := match o with
  | none => NT.NoTwo p t
  | some q => NT.Two p t q.1 q.2
theorem two_optV {p t : Int} {o : Option (Int × Int)} {v : V} {H : Hp} (hp : NT.PrI p) (h : TwoV p t v H) (g : IsTwo p t o) : OptV o v H := by
  rcases h with ⟨q, a, b, h1, h2, h3⟩ | ⟨h1, h2⟩
  · cases o with
    | none => exact absurd h3 (g a b)
    | some r =>
      have e := NT.two_unique hp h3 g
      obtain ⟨c, d⟩ := r
      obtain ⟨rfl, rfl⟩ := e
      exact ⟨q, h1, h2⟩
  · cases o with
    | none => exact h1
    | some r => exact absurd g (h2 r.1 r.2)
def IsApt (p t : Int) (o : Option (Int × Int)) : Prop := match o with
  | none => ∀ a b, ¬ NT.Apt p t a b
  | some q => NT.Apt p t q.1 q.2
theorem apt_optV {p t : Int} {o : Option (Int × Int)} {v : V} {H : Hp} (hp : NT.PrI p) (h : AptV p t v H) (g : IsApt p t o) : OptV o v H := by
  rcases h with ⟨q, a, b, h1, h2, h3⟩ | ⟨h1, h2⟩
  · cases o with
    | none => exact absurd h3 (g a b)
    | some r =>
      have e := NT.apt_unique hp h3 g
      obtain ⟨c, d⟩ := r
      obtain ⟨rfl, rfl⟩ := e
      exact ⟨q, h1, h2⟩
  · cases o with
    | none => exact h1
    | some r => exact absurd g (h2 r.1 r.2)
theorem noTwo3 {t : Int} (h : ∀ a ∈ ([0, 1, 2] : List Int), ∀ b ∈ ([0, 1, 2] : List Int), NT.place 3 a + NT.place 3 b ≠ t) : NT.NoTwo 3 t := fun a b ⟨h1, h2, h3, h4⟩ => h a (by simp only [List.mem_cons, List.not_mem_nil, or_false]; omega) b (by simp only [List.mem_cons, List.not_mem_nil, or_false]; omega) h4
theorem noApt3 {t : Int} (h : ∀ a ∈ ([0, 1, 2] : List Int), ∀ b ∈ ([0, 1, 2] : List Int), NT.place 3 b - NT.place 3 a ≠ t) : ∀ a b, ¬ NT.Apt 3 t a b := fun a b ⟨h1, h2, h3, h4⟩ => h a (by simp only [List.mem_cons, List.not_mem_nil, or_false]; omega) b (by simp only [List.mem_cons, List.not_mem_nil, or_false]; omega) h4
theorem evp_two {E : XK} {CP CU : Addr} {p t : Int} {o : Option (Int × Int)} (ha : Ev ta σ H (.int p)) (hb : Ev tb σ H (.int t)) (hp : NT.PrI p) (g : IsTwo p t o) : EvP (tCall (spTwo CP CU) [] E (tCons ta (tCons tb tNil))) σ H (OptV o) :=
  evp_call (ea_cons ha (ea_cons hb ea_nil)) fun H1 e1 Q q => ⟨_, _, rfl, .inl ⟨p, t, rfl, hp, rfl, fun v H2 e2 h => q v H2 e2 (two_optV hp h g)⟩⟩
theorem evp_apt {E : XK} {CP CU : Addr} {p t : Int} {o : Option (Int × Int)} (ha : Ev ta σ H (.int p)) (hb : Ev tb σ H (.int t)) (hp : NT.PrI p) (h1 : 1 ≤ t) (g : IsApt p t o) : EvP (tCall (spApt CP CU) [] E (tCons ta (tCons tb tNil))) σ H (OptV o) :=
  evp_call (ea_cons ha (ea_cons hb ea_nil)) fun H1 e1 Q q => ⟨_, _, rfl, .inl ⟨p, t, rfl, hp, rfl, h1, fun v H2 e2 h => q v H2 e2 (apt_optV hp h g)⟩⟩
theorem ev_mk {E : XK} {CP CU : Addr} {p n : Int} (ha : Ev ta σ H (.int p)) (hb : Ev tb σ H (.int n)) (hp : NT.PrI p) (h0 : 0 ≤ n) (h1 : n < p) : Ev (tCall (spMark CP CU) [] E (tCons ta (tCons tb tNil))) σ H (.int (NT.place p n)) :=
  ev_call (ea_cons ha (ea_cons hb ea_nil)) fun H1 e1 Q q E => ⟨_, _, rfl, .inl ⟨p, n, rfl, hp, rfl, h0, h1, q⟩⟩
theorem ev_numOf {E : XK} {CP CU CK : Addr} {p n t : Int} (ha : Ev ta σ H (.int p)) (hb : Ev tb σ H (.int t)) (hp : NT.PrI p) (h0 : 0 ≤ n) (h1 : n < p) (ht : t = NT.place p n) : Ev (tCall (spNumberOf CP CU CK) [] E (tCons ta (tCons tb tNil))) σ H (.int n) :=
  ev_call (ea_cons ha (ea_cons hb ea_nil)) fun H1 e1 Q q E => ⟨_, _, rfl, .inl ⟨p, n, rfl, hp, h0, h1, by rw [ht], q⟩⟩
/-! ### answers -/
structure KS (K : PySem.W.Frag) (C C2 : Addr) : Prop where
  c : Cls K C
  c2 : Cls K C2
  i : IsC K C
  i2 : IsC K C2
  k3 : PySem.W.kitOne K (.ref C) (.ref C2) = some false
  k4 : PySem.W.kitOne K (.ref C2) (.ref C2) = some true
  k5 : PySem.W.kitOne K (.ref C) (.ref C) = some true
  k6 : PySem.W.kitOne K (.ref C2) (.ref C) = some false
theorem evp_told {E : XK} {C C2 CB : Addr} {ns : List Int} (h : EvP te σ H (fun v H1 => GoodL v H1 ns)) : EvP (tCall (spTold C C2 CB) [] E (tCons te tNil)) σ H (ToldV C C2 ns) :=
  evp_callP (eap_1 h) fun vs H1 e1 hR Q q => by
    obtain ⟨v, rfl, hv⟩ := hR
    exact ⟨v, rfl, .inl ⟨ns, hv, fun v H2 e2 h2 => q v H2 e2 h2⟩⟩
theorem evp_good {t1 : TA} {vs : List V} (ns : List Int) (h : EvA t1 σ H vs) (e : vs = ns.map V.int) (hl : ns.length ≤ 40) (hp : ns.Pairwise (· < ·)) : EvP (tLst t1) σ H (fun v H1 => GoodL v H1 ns) :=
  evp_evL (el_ints ns h e (by omega)) fun p H1 _ hp1 => ⟨p, rfl, hp1, hl, hp⟩
theorem good_mono {ns : List Int} : Mono (fun v H => GoodL v H ns) := fun _ _ _ e ⟨a, h1, h2, h3⟩ => ⟨a, h1, e _ _ h2, h3⟩
theorem rc_toldP {C C2 : Addr} (Q : KS K C C2) {ns : List Int} {v : V} {H : Hp} (h : ToldV C C2 ns v H) : RC (rIsi K) [v, .ref C2] H (.bl (decide (SM.Apart ns))) := by
  rcases h with ⟨q, dx, rfl, h2, h3⟩ | ⟨q, dx, t1, t2, p1, p2, rfl, h2, h3, h4, h5⟩
  · rw [decide_eq_true h3]
    exact rc_isiOwn Q.c2 Q.i2 Q.k4 h2
  · rw [decide_eq_false (not_apart h5)]
    exact rc_isiOwn Q.c Q.i Q.k3 h2
theorem rc_toldS {C C2 : Addr} (Q : KS K C C2) {ns : List Int} {v : V} {H : Hp} (h : ToldV C C2 ns v H) : RC (rIsi K) [v, .ref C] H (.bl (!decide (SM.Apart ns))) := by
  rcases h with ⟨q, dx, rfl, h2, h3⟩ | ⟨q, dx, t1, t2, p1, p2, rfl, h2, h3, h4, h5⟩
  · rw [decide_eq_true h3]
    exact rc_isiOwn Q.c2 Q.i2 Q.k6 h2
  · rw [decide_eq_false (not_apart h5)]
    exact rc_isiOwn Q.c Q.i Q.k5 h2
theorem ev_isTold {C C2 X : Addr} {ns : List Int} {b : Bool} (h : EvP te σ H (ToldV C C2 ns)) (hr : ∀ v H1, ToldV C C2 ns v H1 → RC (rIsi K) [v, .ref X] H1 (.bl b)) : Ev (tCB (rIsi K) (tCons te (tCons (tC (.ref X)) tNil))) σ H (.bl b) :=
  ev_cbP (eap_2 (P2 := fun v _ => v = .ref X) (ToldV.mono) h (evp_ev ev_c fun _ _ => rfl)) fun vs H1 e1 hR => by
    obtain ⟨x, y, rfl, hx, rfl⟩ := hR
    exact hr x H1 hx
theorem ev_sameCall {C : Addr} {E E2 : XK} {t1 t2 t3 : TE} {as bs ms : List Int} (h1 : EvP t1 σ H (IsT as)) (h2 : EvP t2 σ H (IsT bs)) (h3 : EvP t3 σ H (SX.IsL K (ms.map V.int))) :
    Ev (tMeth C "shows" (spSame K C) [] E (tMake C (spInit C) [] E2 (tCons t1 (tCons t2 tNil))) (tCons t3 tNil)) σ H (.bl (tells2 ms as bs)) := by
  refine ev_methP (evp_same (R := fun vs H => ∃ x y, vs = [x, y] ∧ IsT as x H ∧ IsT bs y H) (fun vs H1 H2 e ⟨x, y, h, p1, p2⟩ => ⟨x, y, h, IsT.mono _ _ _ e p1, IsT.mono _ _ _ e p2⟩) (eap_2 IsT.mono h1 h2) fun vs H1 ⟨x, y, h, _⟩ => ⟨x, y, h⟩) (eap_1 h3) ?_ ?_ ?_
  · rintro v H1 H2 e ⟨q, dx, x, y, h, hq, x2, y2, h', p1, p2⟩
    exact ⟨q, dx, x, y, h, e q _ hq, x2, y2, h', IsT.mono _ _ _ e p1, IsT.mono _ _ _ e p2⟩
  · rintro v H1 ⟨q, dx, x, y, h, hq, _⟩
    exact ⟨q, dx, _, h, hq, flds_no _ _ (by decide +kernel) (by decide +kernel)⟩
  · rintro v vs H2 e2 ⟨q, dx, x, y, rfl, hq, x2, y2, h', ⟨a, ha, qa⟩, ⟨b, hb, qb⟩⟩ ⟨z, rfl, ⟨m, rfl, qm⟩⟩
    injection h' with hx h'
    injection h' with hy h'
    subst hx hy ha hb
    exact fun H3 e3 Q q3 E3 => ⟨q, m, a, b, dx, ms, as, bs, rfl, e3 q _ hq, e3 a _ qa, e3 b _ qb, ex_l e3 qm, q3⟩
theorem ev_apCall {C2 : Addr} {E : XK} {t3 : TE} {ms : List Int} (h3 : EvP t3 σ H (SX.IsL K (ms.map V.int))) (hl : ms.length ≤ 50) :
    Ev (tMeth C2 "shows" (spApart K) [] E (tMakeO C2) (tCons t3 tNil)) σ H (.bl (decide (SM.Apart ms))) :=
  ev_methP (P := fun v H1 => ∃ (q dx : Addr), v = .ref q ∧ H1 q = some (.ins C2 dx [])) evp_makeO (eap_1 h3) (fun v H7 H8 e8 ⟨q, dx, h, h'⟩ => ⟨q, dx, h, e8 q _ h'⟩) (fun v H7 ⟨q, dx, h, h'⟩ => ⟨q, dx, _, h, h', rfl⟩) fun v vs H7 e7 _ hvs => by
    obtain ⟨z, rfl, m, rfl, hm⟩ := hvs
    exact fun H8 e8 Q8 q8 E8 => ⟨v, m, ms, rfl, ex_l e8 hm, hl, q8⟩
/-- two tuples and what is due of them -/
def CaseT (ms : List Int) : V → Hp → Prop := fun v H => ∃ p x y as bs, v = .ref p ∧ H p = some (.tup [x, y, .bl (tells2 ms as bs)]) ∧ IsT as x H ∧ IsT bs y H
theorem CaseT.mono {ms : List Int} : Mono (CaseT ms) := fun _ _ _ e ⟨p, x, y, as, bs, h, q, h1, h2⟩ => ⟨p, x, y, as, bs, h, e p _ q, IsT.mono _ _ _ e h1, IsT.mono _ _ _ e h2⟩
theorem evp_case {t1 t2 : TE} {b : Bool} {as bs ms : List Int} (h1 : EvP t1 σ H (IsT as)) (h2 : EvP t2 σ H (IsT bs)) (hb : b = tells2 ms as bs) : EvP (tTup (tCons t1 (tCons t2 (tCons (tC (.bl b)) tNil)))) σ H (CaseT ms) := fun H1 e Q q =>
  h1 H1 e _ fun x H2 e2 p1 => h2 H2 (e.trans e2) _ fun y H3 e3 p2 => by
    subst hb
    exact ⟨by show 3 ≤ sizeLine; decide, fun p hp => q _ _ ((e2.trans e3).trans (Ex.new hp)) ⟨p, x, y, as, bs, rfl, upd_same, IsT.mono _ _ _ (e3.trans (Ex.new hp)) p1, IsT.mono _ _ _ (Ex.new hp) p2⟩⟩
theorem g_three {p : Addr} {x y z : V} {i j k : Nat} {Q : L2.St → Hp → Prop} (hp : SqT K H p [x, y, z]) (q : Q (((σ.set i (some x)).set j (some y)).set k (some z)) H) : gTup K 3 (gCons (gName i) (gCons (gName j) (gCons (gName k) gNil))) (.ref p) σ H Q :=
  ⟨p, [x, y, z], rfl, hp, rfl, x, [y, z], rfl, y, [z], rfl, z, [], rfl, rfl, q⟩
/-! ### what is asked by a lambda -/
theorem et_lam {T : List (Addr × Str)} {TT : (XK → Hp → VK → Prop) → Hp → VK → Prop} {t : XK → TE} {word : Str} (hT : LamX.Tabs T H) (h : ∀ H1, LamX.ExtN H H1 → LamX.Tabs T H1 → ∀ Q : VK, (∀ H2, Ex H1 H2 → Q (.str word) H2) → TT (fun E H' Q' => t E σ H' Q') H1 Q) :
    ∀ Q : VK, (∀ H2, LamX.ExtN H H2 → LamX.Tabs T H2 → Q (.str word) H2) → LamX.tLam T TT t σ H Q := fun Q q => ⟨hT, fun H1 e T1 => h H1 e T1 Q fun H2 e2 => q H2 (e.trans (exn_of e2)) (T1.ext e2)⟩
theorem s_lamNe {T : List (Addr × Str)} {word : Str} (h : ∀ Q : VK, (∀ H2, LamX.ExtN H H2 → LamX.Tabs T H2 → Q (.str word) H2) → te σ H Q) (k : ∀ H2, LamX.ExtN H H2 → LamX.Tabs T H2 → D.nx σ H2) : tIfS (tTest (tOp rNe te (tC (.str word)))) tu tNext D σ H :=
  h _ fun H2 e2 T2 => ⟨rfl, !decide (V.str word = V.str word), rfl, by
    rw [decide_eq_true rfl]
    exact k H2 e2 T2⟩
theorem q_lamNotEq {T : List (Addr × Str)} {word : Str} (h : ∀ Q : VK, (∀ H2, LamX.ExtN H H2 → LamX.Tabs T H2 → Q (.str word) H2) → te σ H Q) (k : ∀ H2, LamX.ExtN H H2 → LamX.Tabs T H2 → tz D σ H2) : tSeq (tIfS (tNot (tTest (tOp rEq te (tC (.str word))))) tu tNext) tz D σ H :=
  h _ fun H2 e2 T2 => ⟨rfl, decide (V.str word = V.str word), rfl, by
    rw [decide_eq_true rfl]
    exact k H2 e2 T2⟩
theorem x_callS {sp : Sp} {vs : List V} {E : L2.St → XK} {t1 : TA} {Q : VK} (h : EvA t1 σ H vs) (hs : ∀ H1, Ex H H1 → sp vs H1 Q (E σ)) : tCallS sp E t1 σ H Q := h H (Ex.refl H) _ hs
/-! ### put behind -/
theorem evp_behind {E : XK} {CB CN : Addr} {ns : List Int} (h : EvP te σ H (fun v H1 => GoodL v H1 ns)) (hA : SM.Apart ns) : EvP (tCall (spBehind CB CN) [] E (tCons te tNil)) σ H (fun v _ => ∃ L : Int, v = .int L ∧ (ns = [] → L = 0) ∧ (ns ≠ [] → Least ns L)) :=
  evp_callP (eap_1 h) fun vs H1 e1 hR Q q => by
    obtain ⟨v, rfl, hv⟩ := hR
    exact ⟨v, rfl, .inl ⟨ns, hv, hA, fun hn H2 e2 => q _ H2 e2 ⟨0, rfl, fun _ => rfl, fun h => absurd hn h⟩, fun hn L hL H2 e2 => q _ H2 e2 ⟨L, rfl, fun h => absurd h hn, fun _ => hL⟩⟩⟩
theorem ev_behindL {E : XK} {CB CN : Addr} {ns : List Int} {L : Int} (h : ∀ H1, Ex H H1 → EvP te σ H1 (fun v H1 => GoodL v H1 ns)) (hA : SM.Apart ns) (h0 : ns = [] → L = 0) (h1 : ns ≠ [] → Least ns L) : Ev (tCall (spBehind CB CN) [] E (tCons te tNil)) σ H (.int L) := fun H1 e Q q =>
  evp_behind (h H1 e) hA H1 (Ex.refl _) Q fun v H2 e2 ⟨M, hv, m0, m1⟩ => by
    subst hv
    have e : M = L := by
      by_cases hn : ns = []
      · rw [m0 hn, h0 hn]
      · exact least_unique (m1 hn) (h1 hn)
    rw [e]
    exact q H2 e2
theorem x_callSP {sp : Sp} {R : List V → Hp → Prop} {E : L2.St → XK} {t1 : TA} {Q : VK} (h : EvAP t1 σ H R) (hs : ∀ vs H1, Ex H H1 → R vs H1 → sp vs H1 Q (E σ)) : tCallS sp E t1 σ H Q := h H (Ex.refl H) _ hs
def GoodAll : List (List Int) → List V → Hp → Prop
  | [], xs, _ => xs = []
  | ns :: nss, xs, H => ∃ x r, xs = x :: r ∧ GoodL x H ns ∧ GoodAll nss r H
theorem GoodAll.mono : ∀ (nss : List (List Int)) (xs : List V) (H H' : Hp), Ex H H' → GoodAll nss xs H → GoodAll nss xs H'
  | [], _, _, _, _, h => h
  | ns :: nss, _, _, _, e, ⟨x, r, h1, h2, h3⟩ => ⟨x, r, h1, good_mono _ _ _ e h2, GoodAll.mono nss r _ _ e h3⟩
theorem GoodAll.get : ∀ (nss : List (List Int)) (xs : List V) (H : Hp) (i : Nat) (x : V), GoodAll nss xs H → xs[i]? = some x → ∃ ns, nss[i]? = some ns ∧ GoodL x H ns
  | [], xs, _, i, x, h, hx => by
    have h : xs = [] := h
    subst h
    exact nomatch hx
  | ns :: nss, xs, H, 0, x, ⟨y, r, h1, h2, h3⟩, hx => by
    subst h1
    obtain rfl : y = x := Option.some.inj hx
    exact ⟨ns, rfl, h2⟩
  | ns :: nss, xs, H, i + 1, x, ⟨y, r, h1, h2, h3⟩, hx => by
    subst h1
    exact GoodAll.get nss r H i x h3 hx
theorem GoodAll.len : ∀ (nss : List (List Int)) (xs : List V) (H : Hp), GoodAll nss xs H → xs.length = nss.length
  | [], xs, _, h => by
    have h : xs = [] := h
    rw [h] <;> rfl
  | ns :: nss, xs, H, ⟨y, r, h1, h2, h3⟩ => by
    subst h1
    rw [List.length_cons, List.length_cons, GoodAll.len nss r H h3]
theorem ega_nil : EvAP tNil σ H (GoodAll []) := fun H1 _ _ q => q [] H1 (Ex.refl H1) rfl
theorem ega_cons {ns : List Int} {nss : List (List Int)} {tr : TA} (h : EvP te σ H (fun v H1 => GoodL v H1 ns)) (hr : EvAP tr σ H (GoodAll nss)) : EvAP (tCons te tr) σ H (GoodAll (ns :: nss)) := fun H1 e Q q =>
  h H1 e _ fun v H2 e2 hp => hr H2 (e.trans e2) _ fun vs H3 e3 hR => q _ H3 (e2.trans e3) ⟨v, vs, rfl, good_mono _ _ _ e3 hp, hR⟩
theorem el_lcTX {t1 : TA} {j : Nat} {vs : List Nat} (nss : List (List Int)) (f : Nat → Int) (h : EvAP t1 σ H (GoodAll nss)) (hn : nss.length ≤ 1000) (hw : ∀ x, wipe ((wipe σ vs).set j (some x)) vs = wipe σ vs)
    (he : ∀ (i : Nat) (x : V) (ns : List Int) H1, Ex H H1 → nss[i]? = some ns → GoodL x H1 ns → Ev te ((wipe σ vs).set j (some x)) H1 (.int (f i))) : EvL (tLc (iTup K (tTup t1)) (gName j) tYes te vs) σ H (((List.range nss.length).map f).map V.int) := by
  rw [← given_int]
  intro H0 e Q q
  refine h H0 e _ fun xs H2 e2 hR => ⟨sz_of (by rw [GoodAll.len _ _ _ hR]; omega), fun a ha => ?_⟩
  have hl := GoodAll.len _ _ _ hR
  have hx : (upd H2 a (.tup xs)) a = some (.tup xs) := upd_same
  have e1 : Ex H0 (upd H2 a (.tup xs)) := e2.trans (Ex.new ha)
  have hR1 := GoodAll.mono _ _ _ _ (Ex.new ha (o := .tup xs)) hR
  generalize upd H2 a (.tup xs) = H1 at hx e1 hR1 ⊢
  refine ⟨a, rfl, ⟨xs, st_of hx⟩, fun Dl hD => ?_⟩
  rw [← hl] at q
  exact lc_tup (xs := xs) (Cw H1 (fun _ => true) (fun i => .int (f i)) Dl) ⟨hD, Ex.new hD, upd_same⟩ (fun i H' _ p => st_of (p.2.1 a _ hx)) (fun i x H' hi p => ⟨hw x, cw_turn (t := tYes) (te := te) p (by have := (List.getElem?_eq_some_iff.mp hi).1; omega) (fun H4 e4 Q4 q4 => q4 H4 (Ex.refl H4)) fun _ => by
    obtain ⟨ns, h1, h2⟩ := GoodAll.get _ _ _ i x hR1 hi
    exact he i x ns H1 (e.trans e1) h1 h2⟩) (fun H' p => q Dl H' (fresh_back e1 p.1) (e1.trans p.2.1) p.2.2)
end
end K7

namespace K7
open PySem PySem.Spec PyProof.Rows L2 Evl SX SM
local macro_rules | `(tactic| walk_at "cond") => `(tactic| first
  | assumption
  | exact cdiv_small (by decide) (by decide)
  | exact cmul_l (by decide) (by decide)
  | exact cmul_r (by decide) (by decide)
  | exact cpow_c (by decide) (by decide) (by decide)
  | (show (0 : Int) < _; decide)
  | (show (0 : Int) < _; omega))
local macro_rules | `(tactic| walk_at "ev") => `(tactic| first
  | with_reducible exact ev_c
  | ((with_reducible apply ev_var); exact rfl)
  | with_reducible exact ea_nil
  | with_reducible exact eo_none
  | ((with_reducible apply ea_cons) <;> walk_at "ev")
  | ((with_reducible apply eo_some); walk_at "ev")
  | ((with_reducible apply ev_op (hr := rv_I0)) <;> walk_at "ev")
  | ((with_reducible apply ev_op (hr := rv_I ?cnd)); (· walk_at "ev"); (· walk_at "ev"); (· walk_at "cond"))
  | ((with_reducible apply ev_un (hr := ru_neg)); walk_at "ev")
  | ((with_reducible apply ev_op (hr := rv_eq ?cnd)); (· walk_at "ev"); (· walk_at "ev"); (· exact rfl))
  | ((with_reducible apply ev_op (hr := rv_ne ?cnd)); (· walk_at "ev"); (· walk_at "ev"); (· exact rfl))
  | ((with_reducible apply ev_lenI); (· walk_at "ev"); (· assumption))
  | ((with_reducible apply ev_ixL); (· walk_at "ev"); (· walk_at "ev"); (· assumption); (· first | exact atI_nat (j := 0) rfl | exact atI_nat (j := 1) rfl | exact atI_nat (j := 2) rfl))
  | ((with_reducible apply et_test); walk_at "ev")
  | ((with_reducible apply et_B); walk_at "ev"))
local macro_rules | `(tactic| walk_at "tup") => `(tactic| first
  | ((with_reducible apply evp_T [_, _]); (· walk_at "ev"); (· exact rfl); (· show 2 ≤ 100000; decide))
  | ((with_reducible apply evp_T [_]); (· walk_at "ev"); (· exact rfl); (· show 1 ≤ 100000; decide))
  | ((with_reducible apply evp_T [_, _, _]); (· walk_at "ev"); (· exact rfl); (· show 3 ≤ 100000; decide))
  | ((with_reducible apply evp_T []); (· walk_at "ev"); (· exact rfl); (· show 0 ≤ 100000; decide)))
local macro_rules | `(tactic| walk_at "pairs") => `(tactic| first
  | with_reducible exact eal_nil
  | ((with_reducible apply eal_cons PairT.mono); (· ((with_reducible apply evp_pair) <;> walk_at "tup")); (· walk_at "pairs")))
abbrev s_law_promises_right : Stmt := topS 45
abbrev N_law_promises_right : List Str := ["_law_found", "_law_sums", "_law_cases", "_law_one", "_law_other", "_law_due", "_law_number_here", "_law_total", "_law_far", "_law_marks"]
theorem sc_law_promises_right : FnScope N_law_promises_right [] (defScope s_law_promises_right) := ⟨rfl, rfl, rfl, by decide +kernel, rfl, by decide +kernel, by decide +kernel⟩
section
variable {P : Program} {w : World} {K : PySem.W.Frag} {mg : Str → Option Value} {base : Heap}
theorem pr_999983 : NT.Pr 999983 := NT.trial (s := 999) (n := 499) (by decide) (by decide) (by decide) (by decide) (by
  have h : ∀ k : Fin 499, ¬ (3 + 2 * k.val) ∣ 999983 := by decide +kernel
  exact fun k hk => h ⟨k, hk⟩)
theorem okC {x qual : Str} {st : Stmt} {f c : Addr} {fd : FuncData} {N ps : List Str} {k : Nat} {sp : Sp} (F : Fun K x qual st f fd) (hc : fd.code = .ref c) (S : FnScope N ps (defScope st)) (len : ∀ vs H Q E, sp vs H Q E → vs.length = ps.length)
    (hbody : ∀ (A : Around) (outer : List Env) (s : Shared) (H : Hp) (vs : List V) (Q : VK) (E : XK), Room k (A.deeper (envOfC qual (defScope st) s.heap.objs.size f (.ref c))) → sp vs H Q E →
      ∃ t, PSs (cxOf CX0 P w K mg base N qual (defScope st) f (.ref c) A outer s H E).nox (defBody st) t ∧ t { nx := fun _ H' => Q .non H', rt := Q } (start N vs) H) : FnOk P w K mg base CX0 (k + 1) f fd ps sp := by
  obtain ⟨oc, od, kV, doc, pm, an, cdv, ct, osl, rfl, lk, hcd⟩ := F.ex
  have e : cdv = .ref c := hc
  subst e
  refine fn_of lk hcd S len fun A outer s H vs Q E hr hsp => ?_
  obtain ⟨t, h, q⟩ := hbody A outer s H vs Q E hr hsp
  exact ⟨t, h.nox, q⟩
def lamT (Pt : Addr) : List (Addr × Str) := [(Pt, ("_law_promises_right" ++ ".<locals>.") ++ "<lambda>")]
theorem lamT_only {Pt : Addr} (q : Addr) : ∀ p ∈ lamT Pt, p.1 = q → p.2 = ("_law_promises_right" ++ ".<locals>.") ++ "<lambda>" := fun p hp _ => by
  rw [List.mem_singleton.mp hp]
/-! ### _law_promises_right -/
def spProm (Pt : Addr) : Sp := fun vs H Q _ => vs = [] ∧ LamX.Tabs (lamT Pt) H ∧ ∀ H', LamX.ExtN H H' → Q (.bl true) H'
theorem ok_prom {f f1 f2 f3 f4 f5 f6 f7 f8 f9 f10 C C2 CM CP CU CB CK CN c Pt : Addr} {fd fd1 fd2 fd3 fd4 fd5 fd6 fd7 fd8 fd9 fd10 : FuncData} (D : Dfn K mg "_law_promises_right" "_law_promises_right" s_law_promises_right [] f fd) (hc : fd.code = .ref c) (TB : LamX.TabB base mg c Pt) (T : Tx mg)
    (D_mark : Dfn K mg "mark" "mark" s_mark ["prime", "number"] f1 fd1) (G_mark : FnOk P w K mg base (L2N.CX P w) 4 f1 fd1 ["prime", "number"] (spMark CP CU))
    (D_number_of : Dfn K mg "number_of" "number_of" s_number_of ["prime", "found"] f2 fd2) (G_number_of : FnOk P w K mg base (L2N.CX P w) 4 f2 fd2 ["prime", "found"] (spNumberOf CP CU CK))
    (D_two_of : Dfn K mg "two_of" "two_of" s_two_of ["prime", "total"] f3 fd3) (G_two_of : FnOk P w K mg base (L2N.CX P w) 4 f3 fd3 ["prime", "total"] (spTwo CP CU))
    (D_apart_by : Dfn K mg "apart_by" "apart_by" s_apart_by ["prime", "difference"] f4 fd4) (G_apart_by : FnOk P w K mg base (L2N.CX P w) 4 f4 fd4 ["prime", "difference"] (spApt CP CU))
    (D_told : Dfn K mg "told" "told" s_told ["marks"] f5 fd5) (G_told : FnOk P w K mg base (L2N.CX P w) 3 f5 fd5 ["marks"] (spTold C C2 CB))
    (D_behind : Dfn K mg "behind" "behind" s_behind ["marks"] f6 fd6) (G_behind : FnOk P w K mg base (L2N.CX P w) 3 f6 fd6 ["marks"] (spBehind CB CN))
    (D_law_no_of : Dfn K mg "_law_no_of" "_law_no_of" s_law_no_of ["_law_ask"] f7 fd7)
    (TS : TSame K C) (Mk_Same : Mk K C f8) (g_Same : mg "Same" = some (.ref C)) (G_Same_init : FnOk P w K mg base CX0 1 f8 fd8 ["self", "one", "other"] (spInit C)) (b_Same_init : Binds K fd8 ["self", "one", "other"] []) (Mk_Apart : MkO K C2) (g_Apart : mg "Apart" = some (.ref C2))
    (C_Same_shows : Cls K C) (me_Same_shows : Meth K C "shows" f9) (G_Same_shows : FnOk P w K mg base CX0 4 f9 fd9 ["self", "marks"] (spSame K C)) (b_Same_shows : Binds K fd9 ["self", "marks"] [])
    (C_Apart_shows : Cls K C2) (me_Apart_shows : Meth K C2 "shows" f10) (G_Apart_shows : FnOk P w K mg base CX0 2 f10 fd10 ["self", "marks"] (spApart K)) (b_Apart_shows : Binds K fd10 ["self", "marks"] [])
    (X_MarkError : XC K mg "MarkError" CM) (X_NoMark : XC K mg "NoMark" CK) (X_NotApart : XC K mg "NotApart" CN) (KK : KN K CK CM CK CN true false) (KA : KN K CN CM CK CN false true) (KQ : KS K C C2) :
    FnOk P w K mg base CX0 7 f fd [] (spProm Pt) := by
  refine okC D.F hc sc_law_promises_right (fun vs H Q E h => ?_) (fun A outer s H vs Q E hr h => ?_)
  · obtain ⟨rfl, _⟩ := h
    rfl
  · obtain ⟨rfl, hT, k⟩ := h
    refine ⟨_, (pss_cons (ps_if (pt_cmpR (op_neD hr.units) (pe_lc (own := [("_law_number_here", 6)]) (g := gName 6) rfl sc_law_promises_right.nd (pi_range1 (by rfl) T.b_range (pa_cons pe_int pa_nil)) (blkOk_by (N := N_law_promises_right) (sc := defScope s_law_promises_right) (by decide +kernel)) (fun _ _ _ _ _ => (pg_name (i := 6) sc_law_promises_right.nd rfl (by first | exact Or.inl rfl | exact Or.inr rfl))) (fun _ _ _ _ _ => pts_nil) (fun _ _ _ _ _ => (pe_call G_mark (hr.mono (by decide)) (by rfl) D_mark.g D_mark.F.kp D_mark.b .nil SX.passN (pa_cons pe_int (pa_cons (pv 6) pa_nil))))) (pe_lst (pa_cons pe_int (pa_cons pe_int (pa_cons pe_int pa_nil)))) (nomark _))
      (pss_one (ps_ret pe_bl))
      pss_nil)
      (pss_cons (ps_if (pt_cmpR (op_neD hr.units) (pe_lc (own := [("_law_number_here", 6)]) (g := gName 6) rfl sc_law_promises_right.nd (pi_range1 (by rfl) T.b_range (pa_cons pe_int pa_nil)) (blkOk_by (N := N_law_promises_right) (sc := defScope s_law_promises_right) (by decide +kernel)) (fun _ _ _ _ _ => (pg_name (i := 6) sc_law_promises_right.nd rfl (by first | exact Or.inl rfl | exact Or.inr rfl))) (fun _ _ _ _ _ => pts_nil) (fun _ _ _ _ _ => (pe_call G_mark (hr.mono (by decide)) (by rfl) D_mark.g D_mark.F.kp D_mark.b .nil SX.passN (pa_cons pe_int (pa_cons (pv 6) pa_nil))))) (pe_lst (pa_cons pe_int (pa_cons pe_int (pa_cons pe_int (pa_cons pe_int (pa_cons pe_int pa_nil)))))) (nomark _))
      (pss_one (ps_ret pe_bl))
      pss_nil)
      (pss_cons (ps_if (PW.pt (pw_or (pt_cmpR (op_neD hr.units) (pe_lc (own := [("_law_found", 0)]) (g := gName 0) rfl sc_law_promises_right.nd (pi_tup (pe_tup (pa_cons pe_int (pa_cons pe_int (pa_cons pe_int pa_nil))))) (blkOk_by (N := N_law_promises_right) (sc := defScope s_law_promises_right) (by decide +kernel)) (fun _ _ _ _ _ => (pg_name (i := 0) sc_law_promises_right.nd rfl (by first | exact Or.inl rfl | exact Or.inr rfl))) (fun _ _ _ _ _ => pts_nil) (fun _ _ _ _ _ => (pe_call G_number_of (hr.mono (by decide)) (by rfl) D_number_of.g D_number_of.F.kp D_number_of.b .nil SX.passN (pa_cons pe_int (pa_cons (pv 0) pa_nil))))) (pe_lst (pa_cons pe_int (pa_cons pe_int (pa_cons pe_int pa_nil)))) (nomark _)) (pw_or1 (pt_cmpR op_ne (pe_call G_number_of (hr.mono (by decide)) (by rfl) D_number_of.g D_number_of.F.kp D_number_of.b .nil SX.passN (pa_cons pe_int (pa_cons (pe_op op_add (pe_op op_mul (pe_op op_mul pe_int pe_int) pe_int) pe_int) pa_nil))) pe_int (nomark _)))))
      (pss_one (ps_ret pe_bl))
      pss_nil)
      (pss_cons (ps_for PassesOwn.never rfl (pi_list (pe_lst (pa_cons pe_int (pa_cons pe_int (pa_cons pe_int (pa_cons pe_int (pa_cons pe_int (pa_cons (pe_un un_neg pe_int) (pa_cons (pe_un un_neg pe_int) (pa_cons pe_int (pa_cons (pe_op op_pow pe_int pe_int) pa_nil))))))))))) (pg_name (i := 0) sc_law_promises_right.nd rfl (by first | exact Or.inl rfl | exact Or.inr rfl))
      (pss_one (ps_if (pt_cmpR op_ne (SX.pe_lam (T := lamT Pt) (k := 4) D_law_no_of (by rfl) sc_law_no_of rfl (Or.inl rfl) (no_gives T X_MarkError X_NoMark X_NotApart KK KA) TB rfl List.mem_cons_self (lamT_only _) (hr.mono (by decide)) (LamX.lamS_by (sc := defScope s_law_promises_right) (by decide +kernel)) rfl (fun _ _ _ _ _ => rfl) (fun A outer s H E f c' hr2 => (pe_callS G_number_of (hr2.mono (by decide)) (by rfl) D_number_of.g D_number_of.F.kp D_number_of.b (fun σ => L2N.passAt (SX.takesW (L2.takes_of rfl rfl rfl rfl)) σ) (pa_cons pe_int (pa_cons (pv 0) pa_nil))))) pe_str (nomark _))
      (pss_one (ps_ret pe_bl))
      pss_nil)))
      (pss_cons (ps_setLc (i := 1) (own := [("_law_total", 7)]) (g := gName 7) rfl sc_law_promises_right.nd rfl rfl (sw_true rfl rfl rfl (by decide +kernel)) (pi_tup (pe_tup (pa_cons pe_int (pa_cons pe_int (pa_cons pe_int (pa_cons pe_int (pa_cons pe_int (pa_cons pe_int (pa_cons pe_int (pa_cons pe_int (pa_cons (pe_un un_neg pe_int) (pa_cons pe_int pa_nil)))))))))))) (blkOk_by (N := N_law_promises_right) (sc := defScope s_law_promises_right) (by decide +kernel)) (fun _ _ _ _ _ => (pg_name (i := 7) sc_law_promises_right.nd rfl (by first | exact Or.inl rfl | exact Or.inr rfl))) (fun _ _ _ _ _ => pts_nil) (fun _ _ _ _ _ => (pe_call G_two_of (hr.mono (by decide)) (by rfl) D_two_of.g D_two_of.F.kp D_two_of.b .nil SX.passN (pa_cons pe_int (pa_cons (pv 7) pa_nil)))))
      (pss_cons (ps_if (pt_cmpR (op_neD hr.units) (pv 1) (pe_lst (pa_cons (pe_tup (pa_cons pe_int (pa_cons pe_int pa_nil))) (pa_cons (pe_tup (pa_cons pe_int (pa_cons pe_int pa_nil))) (pa_cons (pe_tup (pa_cons pe_int (pa_cons pe_int pa_nil))) (pa_cons (pe_tup (pa_cons pe_int (pa_cons pe_int pa_nil))) (pa_cons (pe_tup (pa_cons pe_int (pa_cons pe_int pa_nil))) (pa_cons (pe_tup (pa_cons pe_int (pa_cons pe_int pa_nil))) (pa_cons pe_non (pa_cons pe_non (pa_cons pe_non (pa_cons pe_non pa_nil))))))))))) (nomark _))
      (pss_one (ps_ret pe_bl))
      pss_nil)
      (pss_cons (ps_if (pt_cmpR (op_neD hr.units) (pe_lc (own := [("_law_far", 8)]) (g := gName 8) rfl sc_law_promises_right.nd (pi_tup (pe_tup (pa_cons pe_int (pa_cons pe_int (pa_cons pe_int (pa_cons pe_int (pa_cons pe_int (pa_cons pe_int pa_nil)))))))) (blkOk_by (N := N_law_promises_right) (sc := defScope s_law_promises_right) (by decide +kernel)) (fun _ _ _ _ _ => (pg_name (i := 8) sc_law_promises_right.nd rfl (by first | exact Or.inl rfl | exact Or.inr rfl))) (fun _ _ _ _ _ => pts_nil) (fun _ _ _ _ _ => (pe_call G_apart_by (hr.mono (by decide)) (by rfl) D_apart_by.g D_apart_by.F.kp D_apart_by.b .nil SX.passN (pa_cons pe_int (pa_cons (pv 8) pa_nil))))) (pe_lst (pa_cons (pe_tup (pa_cons pe_int (pa_cons pe_int pa_nil))) (pa_cons (pe_tup (pa_cons pe_int (pa_cons pe_int pa_nil))) (pa_cons (pe_tup (pa_cons pe_int (pa_cons pe_int pa_nil))) (pa_cons pe_non (pa_cons pe_non (pa_cons pe_non pa_nil))))))) (nomark _))
      (pss_one (ps_ret pe_bl))
      pss_nil)
      (pss_cons (ps_if (pt_cmpR (op_neD hr.units) (pe_call G_two_of (hr.mono (by decide)) (by rfl) D_two_of.g D_two_of.F.kp D_two_of.b .nil SX.passN (pa_cons pe_int (pa_cons pe_int pa_nil))) (pe_tup (pa_cons pe_int (pa_cons pe_int pa_nil))) (nomark _))
      (pss_one (ps_ret pe_bl))
      pss_nil)
      (pss_cons (ps_if (PW.pt (pw_or (pt_not (pt_val (pe_callB call_isi (by rfl) T.b_isinstance (by decide +kernel) (pa_cons (pe_call G_told (hr.mono (by decide)) (by rfl) D_told.g D_told.F.kp D_told.b .nil SX.passN (pa_cons (pe_lst pa_nil) pa_nil)) (pa_cons (pe_glob (v := .ref _) (by rfl) g_Apart rfl) pa_nil))))) (pw_or1 (pt_not (pt_val (pe_callB call_isi (by rfl) T.b_isinstance (by decide +kernel) (pa_cons (pe_call G_told (hr.mono (by decide)) (by rfl) D_told.g D_told.F.kp D_told.b .nil SX.passN (pa_cons (pe_lst (pa_cons (pe_un un_neg pe_int) pa_nil)) pa_nil)) (pa_cons (pe_glob (v := .ref _) (by rfl) g_Apart rfl) pa_nil))))))))
      (pss_one (ps_ret pe_bl))
      pss_nil)
      (pss_cons (ps_if (PW.pt (pw_or (pt_not (pt_val (pe_callB call_isi (by rfl) T.b_isinstance (by decide +kernel) (pa_cons (pe_call G_told (hr.mono (by decide)) (by rfl) D_told.g D_told.F.kp D_told.b .nil SX.passN (pa_cons (pe_lst (pa_cons pe_int (pa_cons pe_int (pa_cons pe_int pa_nil)))) pa_nil)) (pa_cons (pe_glob (v := .ref _) (by rfl) g_Same rfl) pa_nil))))) (pw_or1 (pt_not (pt_val (pe_callB call_isi (by rfl) T.b_isinstance (by decide +kernel) (pa_cons (pe_call G_told (hr.mono (by decide)) (by rfl) D_told.g D_told.F.kp D_told.b .nil SX.passN (pa_cons (pe_lst (pa_cons pe_int (pa_cons pe_int (pa_cons pe_int pa_nil)))) pa_nil)) (pa_cons (pe_glob (v := .ref _) (by rfl) g_Apart rfl) pa_nil))))))))
      (pss_one (ps_ret pe_bl))
      pss_nil)
      (pss_cons (ps_set (i := 2) sc_law_promises_right.nd rfl (by first | exact Or.inl rfl | exact Or.inr rfl) (pe_lst (pa_cons (pe_tup (pa_cons (pe_tup (pa_cons pe_int (pa_cons pe_int pa_nil))) (pa_cons (pe_tup (pa_cons pe_int (pa_cons pe_int pa_nil))) (pa_cons pe_bl pa_nil)))) (pa_cons (pe_tup (pa_cons (pe_tup (pa_cons pe_int (pa_cons pe_int pa_nil))) (pa_cons (pe_tup (pa_cons pe_int (pa_cons pe_int pa_nil))) (pa_cons pe_bl pa_nil)))) (pa_cons (pe_tup (pa_cons (pe_tup (pa_cons pe_int (pa_cons pe_int pa_nil))) (pa_cons (pe_tup (pa_cons pe_int (pa_cons pe_int pa_nil))) (pa_cons pe_bl pa_nil)))) pa_nil)))))
      (pss_cons (ps_set (i := 2) sc_law_promises_right.nd rfl (by first | exact Or.inl rfl | exact Or.inr rfl) (pe_op op_cat (pv 2) (pe_lst (pa_cons (pe_tup (pa_cons (pe_tup (pa_cons pe_int (pa_cons pe_int pa_nil))) (pa_cons (pe_tup (pa_cons pe_int (pa_cons pe_int pa_nil))) (pa_cons pe_bl pa_nil)))) (pa_cons (pe_tup (pa_cons (pe_tup (pa_cons pe_int pa_nil)) (pa_cons (pe_tup (pa_cons pe_int (pa_cons pe_int pa_nil))) (pa_cons pe_bl pa_nil)))) (pa_cons (pe_tup (pa_cons (pe_tup (pa_cons pe_int (pa_cons pe_int pa_nil))) (pa_cons (pe_tup (pa_cons pe_int (pa_cons pe_int pa_nil))) (pa_cons pe_bl pa_nil)))) pa_nil))))))
      (pss_cons (ps_set (i := 2) sc_law_promises_right.nd rfl (by first | exact Or.inl rfl | exact Or.inr rfl) (pe_op op_cat (pv 2) (pe_lst (pa_cons (pe_tup (pa_cons (pe_tup (pa_cons pe_int (pa_cons pe_int pa_nil))) (pa_cons (pe_tup (pa_cons pe_int (pa_cons pe_int pa_nil))) (pa_cons pe_bl pa_nil)))) (pa_cons (pe_tup (pa_cons (pe_tup pa_nil) (pa_cons (pe_tup pa_nil) (pa_cons pe_bl pa_nil)))) (pa_cons (pe_tup (pa_cons (pe_tup (pa_cons (pe_un un_neg pe_int) (pa_cons pe_int pa_nil))) (pa_cons (pe_tup (pa_cons pe_int (pa_cons pe_int pa_nil))) (pa_cons pe_bl pa_nil)))) pa_nil))))))
      (pss_cons (ps_for PassesOwn.never rfl (pi_list (pv 2)) (pg_tup rfl (pgs_cons (pg_name (i := 3) sc_law_promises_right.nd rfl (by first | exact Or.inl rfl | exact Or.inr rfl)) (pgs_cons (pg_name (i := 4) sc_law_promises_right.nd rfl (by first | exact Or.inl rfl | exact Or.inr rfl)) (pgs_cons (pg_name (i := 5) sc_law_promises_right.nd rfl (by first | exact Or.inl rfl | exact Or.inr rfl)) pgs_nil))))
      (pss_one (ps_if (pt_cmpR op_ne (pe_meth (pe_make Mk_Same G_Same_init (hr.mono (by decide)) (by rfl) g_Same b_Same_init .nil pass0 (pa_cons (pv 3) (pa_cons (pv 4) pa_nil))) C_Same_shows me_Same_shows G_Same_shows (hr.mono (by decide)) b_Same_shows .nil pass0 (pa_cons (pe_lst (pa_cons pe_int (pa_cons pe_int (pa_cons pe_int pa_nil)))) pa_nil)) (pv 5) (nomark _))
      (pss_one (ps_ret pe_bl))
      pss_nil)))
      (pss_cons (ps_if (pt_cmpR (op_neD hr.units) (pe_lc (own := [("_law_marks", 9)]) (g := gName 9) rfl sc_law_promises_right.nd (pi_tup (pe_tup (pa_cons (pe_lst pa_nil) (pa_cons (pe_lst (pa_cons pe_int pa_nil)) (pa_cons (pe_lst (pa_cons pe_int (pa_cons pe_int pa_nil))) (pa_cons (pe_lst (pa_cons (pe_un un_neg (pe_op op_pow pe_int pe_int)) pa_nil)) (pa_cons (pe_lst (pa_cons pe_int (pa_cons pe_int (pa_cons pe_int pa_nil)))) pa_nil))))))) (blkOk_by (N := N_law_promises_right) (sc := defScope s_law_promises_right) (by decide +kernel)) (fun _ _ _ _ _ => (pg_name (i := 9) sc_law_promises_right.nd rfl (by first | exact Or.inl rfl | exact Or.inr rfl))) (fun _ _ _ _ _ => pts_nil) (fun _ _ _ _ _ => (pe_call G_behind (hr.mono (by decide)) (by rfl) D_behind.g D_behind.F.kp D_behind.b .nil SX.passN (pa_cons (pv 9) pa_nil)))) (pe_lst (pa_cons pe_int (pa_cons pe_int (pa_cons pe_int (pa_cons (pe_op op_sub pe_int (pe_op op_pow pe_int pe_int)) (pa_cons pe_int pa_nil)))))) (nomark _))
      (pss_one (ps_ret pe_bl))
      pss_nil)
      (pss_cons (ps_if (pt_not (pt_cmpR op_eq (SX.pe_lam (T := lamT Pt) (k := 4) D_law_no_of (by rfl) sc_law_no_of rfl (Or.inl rfl) (no_gives T X_MarkError X_NoMark X_NotApart KK KA) TB rfl List.mem_cons_self (lamT_only _) (hr.mono (by decide)) (LamX.lamS_by (sc := defScope s_law_promises_right) (by decide +kernel)) rfl (fun _ _ _ _ _ => rfl) (fun A outer s H E f c' hr2 => (pe_callS G_behind (hr2.mono (by decide)) (by rfl) D_behind.g D_behind.F.kp D_behind.b (fun σ => L2N.passAt (SX.takesW (L2.takes_of rfl rfl rfl rfl)) σ) (pa_cons (pe_lst (pa_cons pe_int (pa_cons pe_int (pa_cons pe_int pa_nil)))) pa_nil)))) pe_str (nomark _)))
      (pss_one (ps_ret pe_bl))
      pss_nil)
      (pss_cons (ps_if (pt_not (pt_not (pt_val (pe_meth (SX.pe_makeO Mk_Apart (by rfl) g_Apart) C_Apart_shows me_Apart_shows G_Apart_shows (hr.mono (by decide)) b_Apart_shows .nil pass0 (pa_cons (pe_lst (pa_cons pe_int (pa_cons pe_int (pa_cons pe_int pa_nil)))) pa_nil)))))
      (pss_one (ps_ret pe_bl))
      pss_nil)
      (pss_cons (ps_if (pt_not (pt_val (pe_meth (SX.pe_makeO Mk_Apart (by rfl) g_Apart) C_Apart_shows me_Apart_shows G_Apart_shows (hr.mono (by decide)) b_Apart_shows .nil pass0 (pa_cons (pe_lst pa_nil) pa_nil))))
      (pss_one (ps_ret pe_bl))
      pss_nil)
      (pss_one (ps_ret (pe_meth (SX.pe_makeO Mk_Apart (by rfl) g_Apart) C_Apart_shows me_Apart_shows G_Apart_shows (hr.mono (by decide)) b_Apart_shows .nil pass0 (pa_cons (pe_lst (pa_cons pe_int (pa_cons pe_int (pa_cons pe_int pa_nil)))) pa_nil)))))))))))))))))))))), ?_⟩
    have p3 : NT.PrI 3 := NT.pri_small (by decide)
    have p5 : NT.PrI 5 := NT.pri_small (by decide)
    have pP : NT.PrI 999983 := ⟨by decide, by decide, pr_999983⟩
    -- marks
    refine q_when (b := false) (et_neII (el_lcR1i (n := 3) (fun i => NT.place 3 (i : Int)) (ea_cons ev_c ea_nil) (by decide) (fun x => rfl) fun i H1 e1 hi => ev_mk ev_c (ev_var rfl) p3 (by omega) (by omega)) (el_ints [0, 7, 13] (by walk_at "ev") (by exact rfl) (by show 3 ≤ 100000; decide)) (by decide)) (fun h => nomatch h) fun _ H1 e1 => ?_
    refine q_when (b := false) (et_neII (el_lcR1i (n := 5) (fun i => NT.place 5 (i : Int)) (ea_cons ev_c ea_nil) (by decide) (fun x => rfl) fun i H1 e1 hi => ev_mk ev_c (ev_var rfl) p5 (by omega) (by omega)) (el_ints [0, 11, 24, 34, 41] (by walk_at "ev") (by exact rfl) (by show 5 ≤ 100000; decide)) (by decide)) (fun h => nomatch h) fun _ H2 e2 => ?_
    -- their numbers again
    have num : EvL (tLc (iTup K (tTup (tCons (tC (.int 0)) (tCons (tC (.int 7)) (tCons (tC (.int 13)) tNil))))) (gName 0) tYes (tCall (spNumberOf CP CU CK) [] E0 (tCons (tC (.int 3)) (tCons (tVar 0) tNil))) [0]) [none, none, none, none, none, none, none, none, none, none] H2 (([0, 1, 2] : List Int).map V.int) :=
      el_lcT (xs := [.int 0, .int 7, .int 13]) (fun i => .int (i : Int)) (evp_evU (eu_tup (vs := [.int 0, .int 7, .int 13]) (by walk_at "ev") (by show 3 ≤ 100000; decide)) fun p H3 _ h => ⟨p, rfl, h⟩) (by show 3 ≤ 40000; decide) (fun x => rfl) fun i x H3 e3 hx => by
        match i, hx with
        | 0, hx =>
          obtain rfl : V.int 0 = x := Option.some.inj hx
          exact ev_numOf ev_c (ev_var rfl) p3 (by decide) (by decide) (by decide)
        | 1, hx =>
          obtain rfl : V.int 7 = x := Option.some.inj hx
          exact ev_numOf ev_c (ev_var rfl) p3 (by decide) (by decide) (by decide)
        | 2, hx =>
          obtain rfl : V.int 13 = x := Option.some.inj hx
          exact ev_numOf ev_c (ev_var rfl) p3 (by decide) (by decide) (by decide)
        | i + 3, hx => simp at hx
    refine q_when (b := false) (et_or (a := false) (b := false) (et_neII num (el_ints [0, 1, 2] (by walk_at "ev") (by exact rfl) (by show 3 ≤ 100000; decide)) rfl) fun _ => et_is (et_test (ev_op (ev_numOf (n := 5) ev_c (ev_op (ev_op (ev_op ev_c ev_c (rv_I (cmul_l (by decide) (by decide)))) ev_c (rv_I (cmul_r (by decide) (by decide)))) ev_c rv_I0) pP (by decide) (by decide) (by decide)) ev_c (rv_ne rfl))) (by rfl)) (fun h => nomatch h) fun _ H3 e3 => ?_
    have e03 := (e1.trans e2).trans e3
    have hT3 := hT.ext e03
    -- no marks
    refine s_forNLn (D := { nx := _, rt := _ }) (el_ints [1, 6, 8, 12, 14, -1, -7, 19, 10 ^ 30] (by walk_at "ev") (by exact rfl) (by show 9 ≤ 100000; decide)) (fun l i σ' H' => ∃ y0, σ' = [y0, none, none, none, none, none, none, none, none, none] ∧ LamX.ExtN H3 H' ∧ LamX.Tabs (lamT Pt) H' ∧ H' l = some (.lst (([1, 6, 8, 12, 14, -1, -7, 19, 10 ^ 30] : List Int).map V.int))) ?_ ?_ ?_ ?_
    · exact fun l H4 hl4 e4 h4 => ⟨_, rfl, exn_of e4, hT3.ext e4, h4⟩
    · exact fun l i σ' H' _ ⟨_, _, _, _, h⟩ => sq_of h
    · rintro l i x σ' H4 hx ⟨y0, rfl, e4, T4, h4⟩
      obtain ⟨z, hz, rfl, _⟩ := get_ints hx
      have hz2 : z ≠ 0 ∧ z ≠ 7 ∧ z ≠ 13 := by
        have key : ∀ z ∈ ([1, 6, 8, 12, 14, -1, -7, 19, 10 ^ 30] : List Int), z ≠ 0 ∧ z ≠ 7 ∧ z ≠ 13 := by decide
        exact key z hz
      have hno : NoMk 3 z := fun n h0 h1 e => by
        have hn : n = 0 ∨ n = 1 ∨ n = 2 := by omega
        rcases hn with rfl | rfl | rfl
        · exact hz2.1 (e.symm.trans (by decide))
        · exact hz2.2.1 (e.symm.trans (by decide))
        · exact hz2.2.2 (e.symm.trans (by decide))
      refine s_lamNe (et_lam T4 fun H5 e5 T5 Q5 q5 => ?_) fun H5 e5 T5 => ⟨_, rfl, e4.trans e5, T5, exn_lst e5 h4⟩
      show tCallS _ _ _ _ _ _
      exact x_callS (vs := [.int 3, .int z]) (by walk_at "ev") fun H6 e6 => ⟨_, _, rfl, .inr (.inr (.inr ⟨3, z, rfl, p3, rfl, hno, fun H7 e7 => ⟨rfl, .inl ⟨rfl, fun H8 e8 => q5 H8 ((e6.trans e7).trans e8)⟩⟩⟩))⟩
    · rintro l σ' H4 ⟨y0, rfl, e4, T4, _⟩
      have n4 : LamX.ExtN H H4 := (exn_of e03).trans e4
      -- sums of two marks
      have ht : EvU (tTup (tCons (tC (.int 0)) (tCons (tC (.int 7)) (tCons (tC (.int 13)) (tCons (tC (.int 14)) (tCons (tC (.int 20)) (tCons (tC (.int 26)) (tCons (tC (.int 1)) (tCons (tC (.int 21)) (tCons (tUn (rU fun i => .int (-i)) (tC (.int 7))) (tCons (tC (.int 27)) tNil))))))))))) [y0, none, none, none, none, none, none, none, none, none] H4 ((([(0, some (0, 0)), (7, some (0, 1)), (13, some (0, 2)), (14, some (1, 1)), (20, some (1, 2)), (26, some (2, 2)), (1, none), (21, none), (-7, none), (27, none)] : List (Int × Option (Int × Int))).map (·.1)).map V.int) := (eu_ints [0, 7, 13, 14, 20, 26, 1, 21, -7, 27] (by walk_at "ev") (by exact rfl) (by show 10 ≤ 100000; decide))
      refine q_asgP (P := LstO [some (0, 0), some (0, 1), some (0, 2), some (1, 1), some (1, 2), some (2, 2), none, none, none, none]) (evp_lcO (K := K) _ ht (by show 10 ≤ 40000; decide) (fun x => rfl) fun q H5 e5 hq => ?_) fun v H5 e5 hv => ?_
      · refine evp_two ev_c (ev_var rfl) p3 ?_
        simp only [List.mem_cons, List.not_mem_nil, or_false] at hq
        rcases hq with rfl | rfl | rfl | rfl | rfl | rfl | rfl | rfl | rfl | rfl
        · exact ⟨by decide, by decide, by decide, by decide⟩
        · exact ⟨by decide, by decide, by decide, by decide⟩
        · exact ⟨by decide, by decide, by decide, by decide⟩
        · exact ⟨by decide, by decide, by decide, by decide⟩
        · exact ⟨by decide, by decide, by decide, by decide⟩
        · exact ⟨by decide, by decide, by decide, by decide⟩
        · exact noTwo3 (by decide)
        · exact noTwo3 (by decide)
        · exact noTwo3 (by decide)
        · exact noTwo3 (by decide)
      refine q_when (b := false) (et_test (ev_opPP (P1 := LstO [some (0, 0), some (0, 1), some (0, 2), some (1, 1), some (1, 2), some (2, 2), none, none, none, none]) (P2 := LstO [some (0, 0), some (0, 1), some (0, 2), some (1, 1), some (1, 2), some (2, 2), none, none, none, none]) LstO.mono (evp_ev (ev_var rfl) fun H6 e6 => LstO.mono _ _ _ e6 hv)
        (evp_lstO (eoa_cons (eo_pair (by walk_at "ev") (by exact rfl)) <| eoa_cons (eo_pair (by walk_at "ev") (by exact rfl)) <| eoa_cons (eo_pair (by walk_at "ev") (by exact rfl)) <| eoa_cons (eo_pair (by walk_at "ev") (by exact rfl)) <| eoa_cons (eo_pair (by walk_at "ev") (by exact rfl)) <| eoa_cons (eo_pair (by walk_at "ev") (by exact rfl)) <| eoa_cons eo_non <| eoa_cons eo_non <| eoa_cons eo_non <| eoa_cons eo_non eoa_nil) (by decide))
        fun x y H6 e6 hx hy => rv_neOO hx hy)) (fun h => nomatch h) fun _ H6 e6 => ?_
      -- differences
      have hd : EvU (tTup (tCons (tC (.int 6)) (tCons (tC (.int 7)) (tCons (tC (.int 13)) (tCons (tC (.int 1)) (tCons (tC (.int 12)) (tCons (tC (.int 14)) tNil))))))) [y0, some v, none, none, none, none, none, none, none, none] H6 ((([(6, some (1, 2)), (7, some (0, 1)), (13, some (0, 2)), (1, none), (12, none), (14, none)] : List (Int × Option (Int × Int))).map (·.1)).map V.int) := eu_ints [6, 7, 13, 1, 12, 14] (by walk_at "ev") (by exact rfl) (by show 6 ≤ 100000; decide)
      refine q_when (b := false) (et_test (ev_opPP (P1 := LstO [some (1, 2), some (0, 1), some (0, 2), none, none, none]) (P2 := LstO [some (1, 2), some (0, 1), some (0, 2), none, none, none]) LstO.mono
        (evp_lcO (K := K) _ hd (by show 6 ≤ 40000; decide) (fun x => rfl) fun q H7 e7 hq => ?_)
        (evp_lstO (eoa_cons (eo_pair (by walk_at "ev") (by exact rfl)) <| eoa_cons (eo_pair (by walk_at "ev") (by exact rfl)) <| eoa_cons (eo_pair (by walk_at "ev") (by exact rfl)) <| eoa_cons eo_non <| eoa_cons eo_non <| eoa_cons eo_non eoa_nil) (by decide))
        fun x y H6 e6 hx hy => rv_neOO hx hy)) (fun h => nomatch h) fun _ H7 e7 => ?_
      · simp only [List.mem_cons, List.not_mem_nil, or_false] at hq
        rcases hq with rfl | rfl | rfl | rfl | rfl | rfl
        · exact evp_apt ev_c (ev_var rfl) p3 (by decide) ⟨by decide, by decide, by decide, by decide⟩
        · exact evp_apt ev_c (ev_var rfl) p3 (by decide) ⟨by decide, by decide, by decide, by decide⟩
        · exact evp_apt ev_c (ev_var rfl) p3 (by decide) ⟨by decide, by decide, by decide, by decide⟩
        · exact evp_apt ev_c (ev_var rfl) p3 (by decide) (noApt3 (by decide))
        · exact evp_apt ev_c (ev_var rfl) p3 (by decide) (noApt3 (by decide))
        · exact evp_apt ev_c (ev_var rfl) p3 (by decide) (noApt3 (by decide))
      refine q_when (b := false) (et_test (ev_opPP (P1 := OptV (some (1, 2))) (P2 := OptV (some (1, 2))) OptV.mono (evp_two ev_c ev_c p5 ⟨by decide, by decide, by decide, by decide⟩) (eo_pair (by walk_at "ev") (by exact rfl)) fun x y H8 e8 hx hy => ?_)) (fun h => nomatch h) fun _ H8 e8 => ?_
      · have r := rv_neOpt (K := K) hx hy
        rw [decide_eq_true rfl] at r
        exact r
      -- answers
      refine q_when (b := false) (et_or (a := false) (b := false) (et_not (a := true) (et_B (ev_is (ev_isTold (evp_told (evp_good [] ea_nil (by exact rfl) (by decide) (by decide))) fun v H1 h => rc_toldP KQ h) (congrArg V.bl (by decide))))) fun _ => et_not (a := true) (et_B (ev_is (ev_isTold (evp_told (evp_good [-5] (by walk_at "ev") (by exact rfl) (by decide) (by decide))) fun v H1 h => rc_toldP KQ h) (congrArg V.bl (by decide))))) (fun h => nomatch h) fun _ H9 e9 => ?_
      refine q_when (b := false) (et_or (a := false) (b := false) (et_not (a := true) (et_B (ev_is (ev_isTold (evp_told (evp_good [2, 4, 6] (by walk_at "ev") (by exact rfl) (by decide) (by decide))) fun v H1 h => rc_toldS KQ h) (congrArg V.bl (by decide))))) fun _ => et_not (a := true) (et_B (ev_is (ev_isTold (evp_told (evp_good [0, 7, 13] (by walk_at "ev") (by exact rfl) (by decide) (by decide))) fun v H1 h => rc_toldP KQ h) (congrArg V.bl (by decide))))) (fun h => nomatch h) fun _ H10 e10 => ?_
      have e410 := ((((e5.trans e6).trans e7).trans e8).trans e9).trans e10
      -- answers by hand
      refine q_asgP (P := LstN (CaseT [1, 2, 3]) 3) (evp_lst (n := 3) CaseT.mono (eal_cons CaseT.mono (evp_case (by walk_at "tup") (by walk_at "tup") (by decide)) <| eal_cons CaseT.mono (evp_case (by walk_at "tup") (by walk_at "tup") (by decide)) <| eal_cons CaseT.mono (evp_case (by walk_at "tup") (by walk_at "tup") (by decide)) eal_nil) (by decide)) fun c1 H11 e11 h11 => ?_
      refine q_asgP (P := LstN (CaseT [1, 2, 3]) 6) (evp_cat (n := 3) (k := 3) CaseT.mono (evp_ev (ev_var rfl) fun H12 e => LstN.mono CaseT.mono _ _ _ e h11) (evp_lst (n := 3) CaseT.mono (eal_cons CaseT.mono (evp_case (by walk_at "tup") (by walk_at "tup") (by decide)) <| eal_cons CaseT.mono (evp_case (by walk_at "tup") (by walk_at "tup") (by decide)) <| eal_cons CaseT.mono (evp_case (by walk_at "tup") (by walk_at "tup") (by decide)) eal_nil) (by decide)) (by decide)) fun c2 H12 e12 h12 => ?_
      refine q_asgP (P := LstN (CaseT [1, 2, 3]) 9) (evp_cat (n := 6) (k := 3) CaseT.mono (evp_ev (ev_var rfl) fun H13 e => LstN.mono CaseT.mono _ _ _ e h12) (evp_lst (n := 3) CaseT.mono (eal_cons CaseT.mono (evp_case (by walk_at "tup") (by walk_at "tup") (by decide)) <| eal_cons CaseT.mono (evp_case (by walk_at "tup") (by walk_at "tup") (by decide)) <| eal_cons CaseT.mono (evp_case (by walk_at "tup") (by walk_at "tup") (by decide)) eal_nil) (by decide)) (by decide)) fun c3 H13 e13 h13 => ?_
      obtain ⟨pc, xs, rfl, hpc, hxl, hxs⟩ := h13
      refine q_forL (ev_var rfl) (sq_of hpc) (fun i σ' H' => ∃ y3 y4 y5, σ' = [y0, some v, some (.ref pc), y3, y4, y5, none, none, none, none] ∧ Ex H13 H') (fun H14 e14 => ⟨_, _, _, rfl, e14⟩) (fun i σ' H' _ ⟨_, _, _, _, e14⟩ => sq_of (e14 pc _ hpc)) ?_ ?_
      · rintro i x σ' H14 hx ⟨y3, y4, y5, rfl, e14⟩
        obtain ⟨p, x1, x2, as, bs, rfl, hp, h1, h2⟩ := CaseT.mono _ _ _ e14 (hxs x (List.mem_of_getElem? hx))
        refine g_three (st_of hp) ?_
        refine s_when (b := false) (et_is (et_test (ev_op (ev_sameCall (K := K) (as := as) (bs := bs) (ms := [1, 2, 3]) (evp_ev (ev_var rfl) fun H15 e15 => IsT.mono _ _ _ e15 h1) (evp_ev (ev_var rfl) fun H15 e15 => IsT.mono _ _ _ e15 h2) (evp_NL (el_ints [1, 2, 3] (by walk_at "ev") (by exact rfl) (by show 3 ≤ 100000; decide)))) (ev_var rfl) (rv_ne rfl))) (by rw [decide_eq_true rfl] <;> rfl)) (fun h => nomatch h) fun _ H15 e15 => ⟨_, _, _, rfl, e14.trans e15⟩
      · rintro σ' H14 ⟨y3, y4, y5, rfl, e14⟩
        have l1 : Least [5] 6 := ⟨by decide, by decide, fun x h1 h2 => by
          have h1 : (5 : Int) < x := h1
          omega⟩
        have l2 : Least [1, 2] 4 := ⟨by decide, by decide, fun x h1 h2 => by
          have h1 : (2 : Int) < x := h1
          obtain rfl : x = 3 := by omega
          decide⟩
        have l3 : Least [-1000000000000000000000000000000] (-999999999999999999999999999999) := ⟨by decide, by decide, fun x h1 h2 => by
          have h1 : (-1000000000000000000000000000000 : Int) < x := h1
          omega⟩
        have l4 : Least [0, 1, 3] 7 := ⟨by decide, by decide, fun x h1 h2 => by
          have h1 : (3 : Int) < x := h1
          have h3 : x = 4 ∨ x = 5 ∨ x = 6 := by omega
          rcases h3 with rfl | rfl | rfl <;> decide⟩
        have beh : EvL (tLc (iTup K (tTup (tCons (tLst tNil) (tCons (tLst (tCons (tC (.int 5)) tNil)) (tCons (tLst (tCons (tC (.int 1)) (tCons (tC (.int 2)) tNil))) (tCons (tLst (tCons (tUn (rU fun i => .int (-i)) (tOp (rI CPow fun i j => .int (i ^ j.toNat)) (tC (.int 10)) (tC (.int 30)))) tNil)) (tCons (tLst (tCons (tC (.int 0)) (tCons (tC (.int 1)) (tCons (tC (.int 3)) tNil)))) tNil))))))) (gName 9) tYes (tCall (spBehind CB CN) [] E0 (tCons (tVar 9) tNil)) [9]) [y0, some v, some (.ref pc), y3, y4, y5, none, none, none, none] H14 (([0, 6, 4, -999999999999999999999999999999, 7] : List Int).map V.int) :=
          el_lcTX [[], [5], [1, 2], [-1000000000000000000000000000000], [0, 1, 3]] (fun i => ([0, 6, 4, -999999999999999999999999999999, 7] : List Int).getD i 0)
            (ega_cons (evp_good [] ea_nil (by exact rfl) (by decide) (by decide)) <| ega_cons (evp_good [5] (by walk_at "ev") (by exact rfl) (by decide) (by decide)) <| ega_cons (evp_good [1, 2] (by walk_at "ev") (by exact rfl) (by decide) (by decide)) <| ega_cons (evp_good [-1000000000000000000000000000000] (by walk_at "ev") (by exact rfl) (by decide) (by decide)) <| ega_cons (evp_good [0, 1, 3] (by walk_at "ev") (by exact rfl) (by decide) (by decide)) ega_nil)
            (by decide) (fun x => rfl) fun i x ns H15 e15 hi hx => by
              have go : ∀ L : Int, SM.Apart ns → (ns = [] → L = 0) → (ns ≠ [] → Least ns L) → Ev (tCall (spBehind CB CN) [] E0 (tCons (tVar 9) tNil)) ((wipe [y0, some v, some (.ref pc), y3, y4, y5, none, none, none, none] [9]).set 9 (some x)) H15 (.int L) := fun L hA h0 h1 => ev_behindL (fun H16 e16 => evp_ev (ev_var rfl) fun H17 e17 => good_mono _ _ _ (e16.trans e17) hx) hA h0 h1
              match i, hi with
              | 0, hi =>
                obtain rfl : [] = ns := Option.some.inj hi
                exact go 0 (by decide) (fun _ => rfl) fun h => absurd rfl h
              | 1, hi =>
                obtain rfl : [5] = ns := Option.some.inj hi
                exact go 6 (by decide) (fun h => nomatch h) fun _ => l1
              | 2, hi =>
                obtain rfl : [1, 2] = ns := Option.some.inj hi
                exact go 4 (by decide) (fun h => nomatch h) fun _ => l2
              | 3, hi =>
                obtain rfl : [-1000000000000000000000000000000] = ns := Option.some.inj hi
                exact go (-999999999999999999999999999999) (by decide) (fun h => nomatch h) fun _ => l3
              | 4, hi =>
                obtain rfl : [0, 1, 3] = ns := Option.some.inj hi
                exact go 7 (by decide) (fun h => nomatch h) fun _ => l4
              | i + 5, hi => simp at hi
        refine q_when (b := false) (et_neII beh (el_ints [0, 6, 4, -999999999999999999999999999999, 7] (by walk_at "ev") (by exact rfl) (by show 5 ≤ 100000; decide)) rfl) (fun h => nomatch h) fun _ H15 e15 => ?_
        have e415 : Ex H4 H15 := ((((e410.trans e11).trans e12).trans e13).trans e14).trans e15
        have T15 := T4.ext e415
        -- none can be put behind
        refine q_lamNotEq (et_lam T15 fun H16 e16 T16 Q16 q16 => ?_) fun H16 e16 T16 => ?_
        · show tCallS _ _ _ _ _ _
          refine x_callSP (eap_1 (evp_good [1, 2, 3] (by walk_at "ev") (by exact rfl) (by decide) (by decide))) fun vs H17 e17 hR => ?_
          obtain ⟨z, rfl, hz⟩ := hR
          exact ⟨z, rfl, .inr (.inl ⟨[1, 2, 3], hz, by decide, fun H18 e18 => ⟨rfl, .inr ⟨rfl, fun H19 e19 => q16 H19 ((e17.trans e18).trans e19)⟩⟩⟩)⟩
        · have n16 : LamX.ExtN H H16 := (n4.trans (exn_of e415)).trans e16
          refine q_when (b := false) (et_not (a := true) (et_not (a := false) (et_B (ev_is (ev_apCall (K := K) (ms := [1, 2, 3]) (evp_NL (el_ints [1, 2, 3] (by walk_at "ev") (by exact rfl) (by show 3 ≤ 100000; decide))) (by decide)) (congrArg V.bl (by decide)))))) (fun h => nomatch h) fun _ H17 e17 => ?_
          refine q_when (b := false) (et_not (a := true) (et_B (ev_is (ev_apCall (K := K) (ms := []) (evp_NL (el_ints [] ea_nil (by exact rfl) (by decide))) (by decide)) (congrArg V.bl (by decide))))) (fun h => nomatch h) fun _ H18 e18 => ?_
          exact s_ret (v := .bl true) (ev_is (ev_apCall (K := K) (ms := [1, 2, 4]) (evp_NL (el_ints [1, 2, 4] (by walk_at "ev") (by exact rfl) (by show 3 ≤ 100000; decide))) (by decide)) (congrArg V.bl (by decide))) fun H19 e19 => k H19 (n16.trans (exn_of ((e17.trans e18).trans e19)))
end
end K7
namespace K7
open PySem PySem.Spec PyProof.Rows L2 Evl SX SM
local macro_rules | `(tactic| walk_at "cond") => `(tactic| first
  | assumption
  | exact cdiv_small (by decide) (by decide)
  | exact cmul_l (by decide) (by decide)
  | exact cmul_r (by decide) (by decide)
  | exact cpow_c (by decide) (by decide) (by decide)
  | (show (0 : Int) < _; decide)
  | (show (0 : Int) < _; omega))
local macro_rules | `(tactic| walk_at "ev") => `(tactic| first
  | with_reducible exact ev_c
  | ((with_reducible apply ev_var); exact rfl)
  | with_reducible exact ea_nil
  | with_reducible exact eo_none
  | ((with_reducible apply ea_cons) <;> walk_at "ev")
  | ((with_reducible apply eo_some); walk_at "ev")
  | ((with_reducible apply ev_op (hr := rv_I0)) <;> walk_at "ev")
  | ((with_reducible apply ev_op (hr := rv_I ?cnd)); (· walk_at "ev"); (· walk_at "ev"); (· walk_at "cond"))
  | ((with_reducible apply ev_un (hr := ru_neg)); walk_at "ev")
  | ((with_reducible apply ev_op (hr := rv_eq ?cnd)); (· walk_at "ev"); (· walk_at "ev"); (· exact rfl))
  | ((with_reducible apply ev_op (hr := rv_ne ?cnd)); (· walk_at "ev"); (· walk_at "ev"); (· exact rfl))
  | ((with_reducible apply ev_lenI); (· walk_at "ev"); (· assumption))
  | ((with_reducible apply ev_ixL); (· walk_at "ev"); (· walk_at "ev"); (· assumption); (· first | exact atI_nat (j := 0) rfl | exact atI_nat (j := 1) rfl | exact atI_nat (j := 2) rfl))
  | ((with_reducible apply et_test); walk_at "ev")
  | ((with_reducible apply et_B); walk_at "ev"))
local macro_rules | `(tactic| walk_at "tup") => `(tactic| first
  | ((with_reducible apply evp_T [_, _]); (· walk_at "ev"); (· exact rfl); (· show 2 ≤ 100000; decide))
  | ((with_reducible apply evp_T [_]); (· walk_at "ev"); (· exact rfl); (· show 1 ≤ 100000; decide))
  | ((with_reducible apply evp_T [_, _, _]); (· walk_at "ev"); (· exact rfl); (· show 3 ≤ 100000; decide))
  | ((with_reducible apply evp_T []); (· walk_at "ev"); (· exact rfl); (· show 0 ≤ 100000; decide)))
local macro_rules | `(tactic| walk_at "pairs") => `(tactic| first
  | with_reducible exact eal_nil
  | ((with_reducible apply eal_cons PairT.mono); (· ((with_reducible apply evp_pair) <;> walk_at "tup")); (· walk_at "pairs")))
section
variable {K : PySem.W.Frag} {σ : L2.St} {H : Hp} {ta tb te tl : TE} {D : Ends} {tz tu : TS}
/-! ### rules of the law's own -/
theorem q_prom (h : ∀ Q : VK, (∀ H2, LamX.ExtN H H2 → Q (.bl true) H2) → te σ H Q) (k : ∀ H2, LamX.ExtN H H2 → tz D σ H2) : tSeq (tIfS (tNot (tB te)) tu tNext) tz D σ H :=
  h _ fun H2 e2 => ⟨true, rfl, k H2 e2⟩
theorem ev_abs {i : Int} (h : Ev ta σ H (.int i)) : Ev (tCB (fun xs H Q => ∃ i : Int, xs = [V.int i] ∧ Q (.int (if i < 0 then -i else i)) H) (tCons ta tNil)) σ H (.int (if i < 0 then -i else i)) := fun H1 e Q q =>
  h H1 e _ fun H2 e2 => ⟨i, rfl, q H2 e2⟩
theorem el_lcE {i0 j0 : Nat} {vs : List Nat} {a : Addr} {xs : List V} (v : Nat → V) (h : Ev tl σ H (.ref a)) (hx : SqL K H a xs) (hz : xs.length ≤ 1000) (hw : ∀ y x, wipe (((wipe σ vs).set i0 (some y)).set j0 (some x)) vs = wipe σ vs)
    (he : ∀ (i : Nat) (x : V) H1, Ex H H1 → xs[i]? = some x → Ev te (((wipe σ vs).set i0 (some (.int (i : Int)))).set j0 (some x)) H1 (v i)) :
    EvL (tLc (iEnum K (tCons tl tNil)) (gTup K 2 (gCons (gName i0) (gCons (gName j0) gNil))) tYes te vs) σ H (given xs.length (fun _ => true) v) := fun H0 e Q q => h H0 e _ fun H1 e1 => ⟨a, xs, rfl, ex_l (e.trans e1) hx, fun Dl hD => by
  refine ⟨fun i m H' => m = xs.length - i ∧ i ≤ xs.length ∧ Cw H1 (fun _ => true) v Dl i H', ⟨_, rfl, Nat.zero_le _, hD, Ex.new hD, upd_same⟩, ?_⟩
  rintro i m H2 ⟨rfl, hi, p⟩
  have q2 := ex_l ((e.trans e1).trans p.2.1) hx
  by_cases hlt : i < xs.length
  · refine .inr ⟨⟨xs, xs[i], q2, by simp [hlt]⟩, fun H' => Cw H1 (fun _ => true) v Dl (i + 1) H', fun H' p' => ⟨_, by omega, rfl, hlt, p'⟩, fun x H' y => ?_⟩
    obtain ⟨T, z, rfl, hT, rfl, hz2⟩ := y
    have hzi : xs[i]? = some z := hz2 xs q2
    have p2 : Cw H1 (fun _ => true) v Dl i (upd H2 T (.tup [.int (i : Int), z])) := ⟨p.1, p.2.1.trans (Ex.new hT), by
      rw [upd_ne (ne_of_none p.2.2 hT)]
      exact p.2.2⟩
    exact g_two (st_of upd_same) ⟨hw _ _, cw_turn (t := tYes) (te := te) p2 (by omega) (fun H4 e4 Q4 q4 => q4 H4 (Ex.refl H4)) fun _ => he i z H1 (e.trans e1) hzi⟩
  · have e5 : i = xs.length := by omega
    subst e5
    exact .inl ⟨⟨xs, q2, Nat.le_refl _⟩, q Dl H2 (fresh_back e1 p.1) (e1.trans p.2.1) p.2.2⟩⟩
theorem el_lcEi {i0 j0 : Nat} {vs : List Nat} {a : Addr} {cs : List Int} (f : Nat → Int) (h : Ev tl σ H (.ref a)) (hx : SqL K H a (cs.map V.int)) (hz : cs.length ≤ 1000) (hw : ∀ y x, wipe (((wipe σ vs).set i0 (some y)).set j0 (some x)) vs = wipe σ vs)
    (he : ∀ (i : Nat) (z : Int) H1, Ex H H1 → i < cs.length → z ∈ cs → cs.getD i 0 = z → Ev te (((wipe σ vs).set i0 (some (.int (i : Int)))).set j0 (some (.int z))) H1 (.int (f i))) :
    EvL (tLc (iEnum K (tCons tl tNil)) (gTup K 2 (gCons (gName i0) (gCons (gName j0) gNil))) tYes te vs) σ H (((List.range cs.length).map f).map V.int) := by
  have hE := el_lcE (K := K) (σ := σ) (H := H) (i0 := i0) (j0 := j0) (vs := vs) (tl := tl) (te := te) (fun i => .int (f i)) h hx (by rw [List.length_map]; exact hz) hw fun i x H1 e1 hx => by
    obtain ⟨hi, hx⟩ := List.getElem?_eq_some_iff.mp hx
    rw [List.getElem_map] at hx
    subst hx
    rw [List.length_map] at hi
    exact he i cs[i] H1 e1 hi (List.getElem_mem hi) (by rw [List.getD_eq_getElem?_getD, List.getElem?_eq_getElem hi] <;> rfl)
  rw [List.length_map, given_int] at hE
  exact hE
/-- sorted(set([..])) of a new list -/
theorem evp_sortSetN {ns : List Int} (ha : EvL ta σ H (ns.map V.int)) (hz : ns.length < 64) :
    EvP (tSortSet K ta) σ H (fun v H1 => ∃ (p : Addr) (ms : List Int), v = .ref p ∧ H1 p = some (.lst (ms.map V.int)) ∧ ms.Pairwise (· < ·) ∧ ms.length ≤ ns.length) := fun H1 e Q q =>
  ha H1 e _ fun l H2 _ e2 hl => ⟨l, ns, rfl, sq_of hl, hz, fun ms p hp hm hlen hn => q _ _ (e2.trans (Ex.new hn)) ⟨p, ms, rfl, upd_same, hp, hlen⟩⟩
theorem q_parLL {i0 j0 : Nat} {xs ys : List V} (h1 : EvL ta σ H xs) (h2 : EvL tb σ H ys) (k : ∀ p q H1, Ex H H1 → H1 p = some (.lst xs) → H1 q = some (.lst ys) → tz D ((σ.set i0 (some (.ref p))).set j0 (some (.ref q))) H1) : tSeq (tPar i0 j0 (tCons ta (tCons tb tNil))) tz D σ H :=
  h1 H (Ex.refl H) _ fun p H1 hp e1 g1 => h2 H1 e1 _ fun q H2 hq e2 g2 => ⟨_, _, rfl, k p q H2 (e1.trans e2) (e2 p _ g1) g2⟩
/-- xs + [x], its list fresh behind all that stands in it -/
theorem evp_cat1F {P : V → Hp → Prop} {a : Addr} {xs : List V} (m : Mono P) (ha : Ev ta σ H (.ref a)) (hx : H a = some (.lst xs)) (hz : xs.length < 100000) (h : EvP te σ H P) :
    EvP (tOp rCat ta (tLst (tCons te tNil))) σ H (fun v H1 => ∃ p x H0, v = .ref p ∧ Ex H H0 ∧ H0 p = none ∧ Ex H0 H1 ∧ H1 p = some (.lst (xs ++ [x])) ∧ P x H0) := fun H1 e Q q =>
  ha H1 e _ fun H2 e2 => evp_lst1 m h H2 (e.trans e2) _ fun v H3 e3 ⟨b, x, ev, hb, px⟩ => by
    subst ev
    exact ⟨a, b, xs, [x], rfl, rfl, ((e.trans e2).trans e3) a _ hx, hb, sz_of (by show xs.length + 1 ≤ 100000; omega), fun r hr => q _ _ ((e2.trans e3).trans (Ex.new hr)) ⟨r, x, H3, rfl, (e.trans e2).trans e3, hr, Ex.new hr, upd_same, px⟩⟩
theorem s_appP {P : V → Hp → Prop} {l : Addr} {xs : List V} (hl : H l = some (.lst xs)) (ha : Ev ta σ H (.ref l)) (h : EvP te σ H P) (hz : xs.length < 100000) (k : ∀ v H1, Ex H H1 → P v H1 → D.nx σ (upd H1 l (.lst (xs ++ [v])))) :
    tDrop (tBM K "list" rAppend ta (tCons te tNil)) D σ H := ha H (Ex.refl H) _ fun H1 e1 =>
  ⟨Or.inl ⟨rfl, xs, sq_of (e1 l _ hl)⟩, h H1 e1 _ fun v H2 e2 hv => ⟨l, xs, v, rfl, rfl, e2 l _ (e1 l _ hl), sz_lt hz, k v H2 (e1.trans e2) hv⟩⟩
/-- [e for x in xs], xs a new list of a kind, each e a thing of which R holds -/
theorem evp_lcP {P : V → Hp → Prop} {R : V → Prop} {n j : Nat} {vs : List Nat} (mP : Mono P) (h : EvP tl σ H (LstN P n)) (hn : n ≤ 1000) (hw : ∀ x, wipe ((wipe σ vs).set j (some x)) vs = wipe σ vs)
    (he : ∀ (x : V) H1, Ex H H1 → P x H1 → EvP te ((wipe σ vs).set j (some x)) H1 (fun v _ => R v)) : EvP (tLc (iList K tl) (gName j) tYes te vs) σ H (LstN (fun v _ => R v) n) := fun H0 e Q q => h H0 e _ fun v H1 e1 ⟨a, xs, ev, hx, hl, hP⟩ => by
  subst ev
  refine ⟨a, rfl, ⟨xs, sq_of hx⟩, fun Dl hD => ?_⟩
  exact lc_list (xs := xs) (fun i H' => ∃ acc, H1 Dl = none ∧ Ex H1 H' ∧ H' Dl = some (.lst acc) ∧ acc.length = i ∧ ∀ x ∈ acc, R x) ⟨[], hD, Ex.new hD, upd_same, rfl, fun x hx => absurd hx (by simp)⟩ (fun i H' _ ⟨_, _, p, _⟩ => sq_of (p a _ hx)) (fun i x H' hi ⟨acc, p1, p2, p3, p4, p5⟩ => ⟨hw x, by
    refine tyes_if ?_
    refine he x H' ((e.trans e1).trans p2) (mP _ _ _ p2 (hP x (List.mem_of_getElem? hi))) H' (Ex.refl _) _ fun y H4 e4 hy => ?_
    have hi2 := (List.getElem?_eq_some_iff.mp hi).1
    refine ⟨acc, e4 Dl _ p3, sz_lt (by omega), acc ++ [y], p1, Ex.mut (p2.trans e4) p1, upd_same, by rw [List.length_append, p4] <;> rfl, fun z hz => ?_⟩
    rcases List.mem_append.mp hz with h | h
    · exact p5 z h
    · rw [List.mem_singleton.mp h]
      exact hy⟩) fun H' ⟨acc, p1, p2, p3, p4, p5⟩ => q _ _ (e1.trans p2) ⟨Dl, acc, rfl, p3, by rw [p4, hl], p5⟩
/-! ### what is plain -/
theorem mPl {k : Nat} : Mono (PlV k) := PlV.mono k
theorem plv_int {i : Int} {H : Hp} : PlV 1 (.int i) H := .inl (.inr ⟨i, rfl⟩)
theorem plv_ints {H : Hp} {p : Addr} {ns : List Int} (h : H p = some (.lst (ns.map V.int)) ∨ H p = some (.tup (ns.map V.int))) (hl : ns.length ≤ 1000) : PlV 1 (.ref p) H := .inr ⟨p, _, rfl, h, by rw [List.length_map]; omega, fun x hx => by
  obtain ⟨i, _, rfl⟩ := List.mem_map.mp hx
  exact .inr ⟨i, rfl⟩⟩
theorem plv_two {p t : Int} {v : V} {H : Hp} (h : TwoV p t v H) : PlV 1 v H := by
  rcases h with ⟨q, a, b, rfl, h2, _⟩ | ⟨rfl, _⟩
  · exact plv_ints (.inr h2) (by show 2 ≤ 1000; decide)
  · exact .inl (.inl rfl)
theorem plv_apt {p t : Int} {v : V} {H : Hp} (h : AptV p t v H) : PlV 1 v H := by
  rcases h with ⟨q, a, b, rfl, h2, _⟩ | ⟨rfl, _⟩
  · exact plv_ints (.inr h2) (by show 2 ≤ 1000; decide)
  · exact .inl (.inl rfl)
theorem evl_two {E : XK} {CP CU : Addr} {p t : Int} (ha : Ev ta σ H (.int p)) (hb : Ev tb σ H (.int t)) (hp : NT.PrI p) : EvP (tCall (spTwo CP CU) [] E (tCons ta (tCons tb tNil))) σ H (PlV 1) :=
  evp_call (ea_cons ha (ea_cons hb ea_nil)) fun H1 e1 Q q => ⟨_, _, rfl, .inl ⟨p, t, rfl, hp, rfl, fun v H2 e2 h => q v H2 e2 (plv_two h)⟩⟩
theorem evl_apt {E : XK} {CP CU : Addr} {p t : Int} (ha : Ev ta σ H (.int p)) (hb : Ev tb σ H (.int t)) (hp : NT.PrI p) (h1 : 1 ≤ t) : EvP (tCall (spApt CP CU) [] E (tCons ta (tCons tb tNil))) σ H (PlV 1) :=
  evp_call (ea_cons ha (ea_cons hb ea_nil)) fun H1 e1 Q q => ⟨_, _, rfl, .inl ⟨p, t, rfl, hp, rfl, h1, fun v H2 e2 h => q v H2 e2 (plv_apt h)⟩⟩
theorem evl_int {i : Int} (h : Ev te σ H (.int i)) : EvP te σ H (PlV 1) := evp_ev h fun _ _ => plv_int
/-! ### a prime's first marks -/
def rowL (m : Nat) (p : Int) : List Int := (List.range m).map fun i : Nat => NT.place p (i : Int)
theorem row_len {m : Nat} {p : Int} : (rowL m p).length = m := by
  unfold rowL
  rw [List.length_map, List.length_range]
theorem row_get {m : Nat} {p : Int} {j : Nat} (h : j < m) : (rowL m p)[j]? = some (NT.place p (j : Int)) := by
  unfold rowL
  rw [List.getElem?_map, List.getElem?_eq_getElem (by rw [List.length_range]; exact h)]
  simp
theorem row_at {m : Nat} {p : Int} {j : Nat} (h : j < m) : atI ((rowL m p).map V.int) (j : Int) = some (.int (NT.place p (j : Int))) := atI_nat (by rw [List.getElem?_map, row_get h] <;> rfl)
theorem row_last {m : Nat} {p : Int} (h : 0 < m) : lastOf (rowL m p) = NT.place p ((m - 1 : Nat) : Int) := by
  unfold lastOf
  rw [List.getD_eq_getElem?_getD, row_len, row_get (by omega)] <;> rfl
theorem place_lt {p : Int} (hp : 0 < p) {i j : Int} (h : i < j) : NT.place p i < NT.place p j := by
  have h1 := NT.place_bounds hp i
  have h2 := NT.place_bounds hp j
  have h3 : 2 * p * i + 2 * p ≤ 2 * p * j := by
    have : 2 * p * (i + 1) ≤ 2 * p * j := Int.mul_le_mul_of_nonneg_left (by omega) (by omega)
    rw [Int.mul_add] at this
    omega
  omega
theorem row_rise {m : Nat} {p : Int} (hp : 0 < p) : (rowL m p).Pairwise (· < ·) := by
  unfold rowL
  rw [List.pairwise_map]
  exact List.Pairwise.imp (fun h => place_lt hp (by omega)) List.pairwise_lt_range
theorem mem_row {m : Nat} {p z : Int} (h : z ∈ rowL m p) : ∃ i : Nat, i < m ∧ z = NT.place p (i : Int) := by
  obtain ⟨i, hi, rfl⟩ := List.mem_map.mp h
  exact ⟨i, List.mem_range.mp hi, rfl⟩
theorem row_apart {m : Nat} {p : Int} (hp : NT.PrI p) (hm : (m : Int) ≤ p) : SM.Apart (rowL m p) := by
  have p0 : 0 < p := by have := hp.1; omega
  refine (apart_val (row_rise p0)).mpr fun a ha b hb c hc d hd hab hcd e => ?_
  obtain ⟨i, hi, rfl⟩ := mem_row ha
  obtain ⟨j, hj, rfl⟩ := mem_row hb
  obtain ⟨k, hk, rfl⟩ := mem_row hc
  obtain ⟨l, hl, rfl⟩ := mem_row hd
  have le : ∀ {x y : Nat}, NT.place p (x : Int) ≤ NT.place p (y : Int) → (x : Int) ≤ (y : Int) := fun {x y} h => Int.not_lt.mp fun hh => by
    have := place_lt p0 hh
    omega
  have u := NT.two_unique (t := NT.place p (i : Int) + NT.place p (j : Int)) hp ⟨by omega, le hab, by omega, rfl⟩ ⟨by omega, le hcd, by omega, e.symm⟩
  rw [u.1, u.2]
  exact ⟨rfl, rfl⟩
theorem place_gap {p : Int} (hp : 3 ≤ p) : 1 ≤ NT.place p 2 - NT.place p 1 := by
  have := place_lt (p := p) (by omega) (show (1 : Int) < 2 by decide)
  omega
theorem primes5 {p : Int} (h : p = 3 ∨ p = 5 ∨ p = 7 ∨ p = 11 ∨ p = 101) : NT.PrI p := by
  rcases h with rfl | rfl | rfl | rfl | rfl
  · exact NT.pri_small (by decide)
  · exact NT.pri_small (by decide)
  · exact NT.pri_small (by decide)
  · exact NT.pri_small (by decide)
  · exact ⟨by decide, by decide, NT.pr_small (s := 10) (n := 4) (by decide)⟩
/-! ### answers that tell of marks -/
def AnsB (C C2 : Addr) : V → Hp → Prop := fun v H => (∃ (q dx : Addr), v = .ref q ∧ H q = some (.ins C2 dx [])) ∨ ∃ (q dx t1 t2 : Addr) (as bs : List Int), v = .ref q ∧ H q = some (.ins C dx (flds (.ref t1) (.ref t2))) ∧ H t1 = some (.tup (as.map V.int)) ∧ H t2 = some (.tup (bs.map V.int))
theorem AnsB.mono {C C2 : Addr} : Mono (AnsB C C2) := fun v H H' e h => by
  rcases h with ⟨q, dx, h1, h2⟩ | ⟨q, dx, t1, t2, as, bs, h1, h2, h3, h4⟩
  · exact .inl ⟨q, dx, h1, e _ _ h2⟩
  · exact .inr ⟨q, dx, t1, t2, as, bs, h1, e _ _ h2, e _ _ h3, e _ _ h4⟩
theorem ansB_told {C C2 : Addr} {ns : List Int} {v : V} {H : Hp} (h : ToldV C C2 ns v H) : AnsB C C2 v H := by
  rcases h with ⟨q, dx, h1, h2, h3⟩ | ⟨q, dx, t1, t2, p1, p2, h1, h2, h3, h4, h5⟩
  · exact .inl ⟨q, dx, h1, h2⟩
  · exact .inr ⟨q, dx, t1, t2, _, _, h1, h2, h3, h4⟩
def IsB (v : V) : Prop := ∃ b, v = .bl b
theorem evp_shows {C C2 : Addr} {E E2 : XK} {t1 t2 t3 t4 : TE} {v : V} {m : Addr} {ms : List Int} (h : AnsB C C2 v H) (h1 : Ev t1 σ H v) (h2 : Ev t2 σ H v) (h3 : Ev t3 σ H (.ref m)) (h4 : Ev t4 σ H (.ref m)) (hm : SqL K H m (ms.map V.int)) (hl : ms.length ≤ 50) :
    EvP (tEither (tMeth C "shows" (spSame K C) [] E t1 (tCons t3 tNil)) (tMeth C2 "shows" (spApart K) [] E2 t2 (tCons t4 tNil))) σ H (fun v _ => IsB v) := by
  rcases h with ⟨q, dx, rfl, hq⟩ | ⟨q, dx, ta, tb, as, bs, rfl, hq, ha, hb⟩
  · refine evp_ev (v := .bl (decide (SM.Apart ms))) (ev_e2 (ev_methP (P := fun v H1 => v = .ref q ∧ H1 q = some (.ins C2 dx [])) (R := fun vs _ => vs = [.ref m]) (evp_ev h2 fun H5 e5 => ⟨rfl, e5 q _ hq⟩) (eap_ea (ea_cons h4 ea_nil) fun _ _ => rfl) (fun v H5 H6 e6 h => ⟨h.1, e6 q _ h.2⟩) (fun x H5 h => ⟨q, dx, _, h.1, h.2, rfl⟩) fun x vs H5 e5 hx hvs => ?_)) fun _ _ => ⟨_, rfl⟩
    obtain ⟨rfl, hq5⟩ := hx
    subst hvs
    exact fun H6 e6 Q6 q6 E6 => ⟨.ref q, m, ms, rfl, ex_l (e5.trans e6) hm, hl, q6⟩
  · refine evp_ev (v := .bl (tells2 ms as bs)) (ev_e1 (ev_methP (P := fun v H1 => v = .ref q ∧ H1 q = some (.ins C dx (flds (.ref ta) (.ref tb)))) (R := fun vs _ => vs = [.ref m]) (evp_ev h1 fun H5 e5 => ⟨rfl, e5 q _ hq⟩) (eap_ea (ea_cons h3 ea_nil) fun _ _ => rfl) (fun v H5 H6 e6 h => ⟨h.1, e6 q _ h.2⟩) (fun x H5 h => ⟨q, dx, _, h.1, h.2, flds_no _ _ (by decide +kernel) (by decide +kernel)⟩) fun x vs H5 e5 hx hvs => ?_)) fun _ _ => ⟨_, rfl⟩
    obtain ⟨rfl, hq5⟩ := hx
    subst hvs
    exact fun H6 e6 Q6 q6 E6 => ⟨q, m, ta, tb, dx, ms, as, bs, rfl, e6 q _ hq5, (e5.trans e6) _ _ ha, (e5.trans e6) _ _ hb, ex_l (e5.trans e6) hm, q6⟩
theorem evb_same {C C2 : Addr} {E : XK} {t1 t2 : TE} {as bs : List Int} (h1 : EvP t1 σ H (IsT as)) (h2 : EvP t2 σ H (IsT bs)) : EvP (tMake C (spInit C) [] E (tCons t1 (tCons t2 tNil))) σ H (AnsB C C2) :=
  (evp_same (R := fun vs H => ∃ x y, vs = [x, y] ∧ IsT as x H ∧ IsT bs y H) (fun vs H1 H2 e ⟨x, y, h, p1, p2⟩ => ⟨x, y, h, IsT.mono _ _ _ e p1, IsT.mono _ _ _ e p2⟩) (eap_2 IsT.mono h1 h2) fun vs H1 ⟨x, y, h, _⟩ => ⟨x, y, h⟩).imp fun v H1 _ ⟨q, dx, x, y, h, hq, x2, y2, h', ⟨a, ha, qa⟩, ⟨b, hb, qb⟩⟩ => by
    injection h' with hx h'
    injection h' with hy h'
    subst hx hy ha hb
    exact .inr ⟨q, dx, a, b, as, bs, h, hq, qa, qb⟩
theorem isB_all : ∀ xs : List V, (∀ x ∈ xs, IsB x) → ∃ bs : List Bool, xs = bs.map V.bl
  | [], _ => ⟨[], rfl⟩
  | x :: xs, h => by
    obtain ⟨b, rfl⟩ := h x List.mem_cons_self
    obtain ⟨bs, hb⟩ := isB_all xs fun y hy => h y (List.mem_cons_of_mem _ hy)
    exact ⟨b :: bs, by rw [hb] <;> rfl⟩
/-- marks, whatever they are -/
def SomeG : V → Hp → Prop := fun v H => ∃ ns, GoodL v H ns
theorem SomeG.mono : Mono SomeG := fun _ _ _ e ⟨ns, p, h, q, l⟩ => ⟨ns, p, h, e p _ q, l⟩
theorem evg {ns : List Int} (h : EvP te σ H (fun v H1 => GoodL v H1 ns)) : EvP te σ H SomeG := h.imp fun _ _ _ h => ⟨ns, h⟩
end
end K7

namespace K7
open PySem PySem.Spec PyProof.Rows L2 Evl SX SM
local macro_rules | `(tactic| walk_at "cond") => `(tactic| first
  | assumption
  | exact cdiv_small (by decide) (by decide)
  | exact cmul_l (by decide) (by decide)
  | exact cmul_r (by decide) (by decide)
  | exact cpow_c (by decide) (by decide) (by decide)
  | (show (0 : Int) < _; decide)
  | (show (0 : Int) < _; omega))
local macro_rules | `(tactic| walk_at "ev") => `(tactic| first
  | with_reducible exact ev_c
  | ((with_reducible apply ev_var); exact rfl)
  | with_reducible exact ea_nil
  | with_reducible exact eo_none
  | ((with_reducible apply ea_cons) <;> walk_at "ev")
  | ((with_reducible apply eo_some); walk_at "ev")
  | ((with_reducible apply ev_op (hr := rv_I0)) <;> walk_at "ev")
  | ((with_reducible apply ev_op (hr := rv_I ?cnd)); (· walk_at "ev"); (· walk_at "ev"); (· walk_at "cond"))
  | ((with_reducible apply ev_un (hr := ru_neg)); walk_at "ev")
  | ((with_reducible apply ev_op (hr := rv_eq ?cnd)); (· walk_at "ev"); (· walk_at "ev"); (· exact rfl))
  | ((with_reducible apply ev_op (hr := rv_ne ?cnd)); (· walk_at "ev"); (· walk_at "ev"); (· exact rfl))
  | ((with_reducible apply ev_lenI); (· walk_at "ev"); (· assumption))
  | ((with_reducible apply ev_ixL); (· walk_at "ev"); (· walk_at "ev"); (· assumption); (· first | exact atI_nat (j := 0) rfl | exact atI_nat (j := 1) rfl | exact atI_nat (j := 2) rfl))
  | ((with_reducible apply et_test); walk_at "ev")
  | ((with_reducible apply et_B); walk_at "ev"))
local macro_rules | `(tactic| walk_at "tup") => `(tactic| first
  | ((with_reducible apply evp_T [_, _]); (· walk_at "ev"); (· exact rfl); (· show 2 ≤ 100000; decide))
  | ((with_reducible apply evp_T [_]); (· walk_at "ev"); (· exact rfl); (· show 1 ≤ 100000; decide))
  | ((with_reducible apply evp_T [_, _, _]); (· walk_at "ev"); (· exact rfl); (· show 3 ≤ 100000; decide))
  | ((with_reducible apply evp_T []); (· walk_at "ev"); (· exact rfl); (· show 0 ≤ 100000; decide)))
local macro_rules | `(tactic| walk_at "pairs") => `(tactic| first
  | with_reducible exact eal_nil
  | ((with_reducible apply eal_cons PairT.mono); (· ((with_reducible apply evp_pair) <;> walk_at "tup")); (· walk_at "pairs")))
abbrev s_law : Stmt := topS 46
abbrev N_law : List Str := ["_law_script", "_law_whole", "_law_cells", "_law_drawn", "_law_found", "_law_shown", "_law_prime", "_law_row", "_law_marks", "_law_answer", "_law_at", "_law_cell", "_law_number_here", "_law_built"]
theorem sc_law : FnScope N_law ["_law_script"] (defScope s_law) := ⟨rfl, rfl, rfl, by decide +kernel, rfl, by decide +kernel, by decide +kernel⟩
section
variable {P : Program} {w : World} {K : PySem.W.Frag} {mg : Str → Option Value} {base : Heap}
def spLaw (K : PySem.W.Frag) (Pt : Addr) : Sp := fun vs H Q _ => ∃ (a : Addr) (ns : List Int), vs = [.ref a] ∧ SqL K H a (ns.map V.int) ∧ ns.length ≤ 63 ∧ (∀ z ∈ ns, Builtin.Int.intBits z ≤ 1048576) ∧ LamX.Tabs (lamT Pt) H ∧ ∀ H', Q (.bl true) H'
theorem ok_law {f f1 f2 f3 f4 f5 f6 f7 f8 f9 f10 f11 f12 f13 C C2 CP CU CB CK CN Pt : Addr} {fd fd1 fd2 fd3 fd4 fd5 fd6 fd7 fd8 fd9 fd10 fd11 fd12 fd13 : FuncData} (D : Dfn K mg "law" "law" s_law ["_law_script"] f fd) (T : Tx mg)
    (D_mark : Dfn K mg "mark" "mark" s_mark ["prime", "number"] f1 fd1) (G_mark : FnOk P w K mg base (L2N.CX P w) 4 f1 fd1 ["prime", "number"] (spMark CP CU))
    (D_number_of : Dfn K mg "number_of" "number_of" s_number_of ["prime", "found"] f2 fd2) (G_number_of : FnOk P w K mg base (L2N.CX P w) 4 f2 fd2 ["prime", "found"] (spNumberOf CP CU CK))
    (D_two_of : Dfn K mg "two_of" "two_of" s_two_of ["prime", "total"] f3 fd3) (G_two_of : FnOk P w K mg base (L2N.CX P w) 4 f3 fd3 ["prime", "total"] (spTwo CP CU))
    (D_apart_by : Dfn K mg "apart_by" "apart_by" s_apart_by ["prime", "difference"] f4 fd4) (G_apart_by : FnOk P w K mg base (L2N.CX P w) 4 f4 fd4 ["prime", "difference"] (spApt CP CU))
    (D_told : Dfn K mg "told" "told" s_told ["marks"] f5 fd5) (G_told : FnOk P w K mg base (L2N.CX P w) 3 f5 fd5 ["marks"] (spTold C C2 CB))
    (D_behind : Dfn K mg "behind" "behind" s_behind ["marks"] f6 fd6) (G_behind : FnOk P w K mg base (L2N.CX P w) 3 f6 fd6 ["marks"] (spBehind CB CN))
    (D_law_promises_right : Dfn K mg "_law_promises_right" "_law_promises_right" s_law_promises_right [] f7 fd7) (G_law_promises_right : FnOk P w K mg base CX0 7 f7 fd7 [] (spProm Pt))
    (TS : TSame K C) (Mk_Same : Mk K C f8) (g_Same : mg "Same" = some (.ref C)) (G_Same_init : FnOk P w K mg base CX0 1 f8 fd8 ["self", "one", "other"] (spInit C)) (b_Same_init : Binds K fd8 ["self", "one", "other"] []) (Mk_Apart : MkO K C2) (g_Apart : mg "Apart" = some (.ref C2))
    (C_Same_shows : Cls K C) (me_Same_shows : Meth K C "shows" f9) (G_Same_shows : FnOk P w K mg base CX0 4 f9 fd9 ["self", "marks"] (spSame K C)) (b_Same_shows : Binds K fd9 ["self", "marks"] [])
    (C_Apart_shows : Cls K C2) (me_Apart_shows : Meth K C2 "shows" f10) (G_Apart_shows : FnOk P w K mg base CX0 2 f10 fd10 ["self", "marks"] (spApart K)) (b_Apart_shows : Binds K fd10 ["self", "marks"] [])
    (D_law_number : Dfn K mg "_law_number" "_law_number" s_law_number ["_law_cell", "_law_at", "_law_whole"] f11 fd11) (D_law_plain : Dfn K mg "_law_plain" "_law_plain" s_law_plain ["_law_thing"] f12 fd12) (D_law_truths : Dfn K mg "_law_truths" "_law_truths" s_law_truths ["_law_things"] f13 fd13) (KQ : KS K C C2) :
    FnOk P w K mg base CX0 8 f fd ["_law_script"] (spLaw K Pt) := by
  have G_law_number : FnOk P w K mg base CX0 1 f11 fd11 ["_law_cell", "_law_at", "_law_whole"] spNum := ok_num D_law_number
  have G_law_plain : FnOk P w K mg base CX0 3 f12 fd12 ["_law_thing"] (spPlain 3) := ok_plain D_law_plain T 3
  have G_law_truths : FnOk P w K mg base CX0 1 f13 fd13 ["_law_things"] spTruths := ok_truths D_law_truths T
  refine D.F.ok sc_law (fun vs H Q E h => ?_) (fun cdv A outer s H vs Q E hr h => ?_)
  · obtain ⟨a, ns, rfl, _⟩ := h
    rfl
  · obtain ⟨a, ns, rfl, hS0, hlen, hbits, hT, k⟩ := h
    refine ⟨_, (pss_cons (ps_if (pt_not (pt_val (pe_call0 G_law_promises_right (hr.mono (by decide)) (by rfl) D_law_promises_right.g D_law_promises_right.F.kp D_law_promises_right.b .nil pass0)))
      (pss_one (ps_ret pe_bl))
      pss_nil)
      (pss_cons (ps_set (i := 1) sc_law.nd rfl (by first | exact Or.inl rfl | exact Or.inr rfl) (pe_callB call_abs (by rfl) T.b_abs (by decide +kernel) (pa_cons (pe_callB (cr_sum rfl) (by rfl) T.b_sum (by decide +kernel) (pa_cons (pe_slice sl_list (pv 0) po_none (po_some pe_int)) pa_nil)) pa_nil)))
      (pss_cons (ps_set (i := 2) sc_law.nd rfl (by first | exact Or.inl rfl | exact Or.inr rfl) (pe_ifExp (pt_cmpR (op_neD hr.units) (pv 0) (pe_lst pa_nil) (nomark _)) (pe_slice sl_list (pv 0) po_none (po_some pe_int)) (pe_lst (pa_cons pe_int pa_nil))))
      (pss_cons (ps_set (i := 3) sc_law.nd rfl (by first | exact Or.inl rfl | exact Or.inr rfl) (SX.pe_sortSet (by rfl) T.b_sorted (by rfl) T.b_set (pe_lc (own := [("_law_at", 10), ("_law_cell", 11)]) rfl sc_law.nd (pi_enum (by rfl) T.b_enumerate (pa_cons (pv 2) pa_nil)) (blkOk_by (N := N_law) (sc := defScope s_law) (by decide +kernel)) (fun _ _ _ _ _ => (SX.pg_tupK (K := K) (n := 2) rfl (pgs_cons (pg_name (i := 10) sc_law.nd rfl (by first | exact Or.inl rfl | exact Or.inr rfl)) (pgs_cons (pg_name (i := 11) sc_law.nd rfl (by first | exact Or.inl rfl | exact Or.inr rfl)) pgs_nil)))) (fun _ _ _ _ _ => pts_nil) (fun _ _ _ _ _ => (pe_op op_sub (pe_op op_mod (pe_op op_fdivW (pe_callB call_abs (by rfl) T.b_abs (by decide +kernel) (pa_cons (pe_call G_law_number (hr.mono (by decide)) (by rfl) D_law_number.g D_law_number.F.kp D_law_number.b .nil pass0 (pa_cons (pv 11) (pa_cons (pv 10) (pa_cons (pv 1) pa_nil)))) pa_nil)) pe_int) pe_int) pe_int)))))
      (pss_cons (ps_par (i := 4) (j := 5) (by rfl) sc_law.nd rfl rfl (by decide) rfl rfl (pa_cons (pe_lst pa_nil) (pa_cons (pe_lst pa_nil) pa_nil)) (by rfl))
      (pss_cons (ps_for PassesOwn.never rfl (pi_list (pe_lst (pa_cons pe_int (pa_cons pe_int (pa_cons (pe_ix ix_tup (pe_tup (pa_cons pe_int (pa_cons pe_int (pa_cons pe_int pa_nil)))) (pe_op op_mod (pv 1) pe_int) (fun _ _ => rfl)) pa_nil))))) (pg_name (i := 6) sc_law.nd rfl (by first | exact Or.inl rfl | exact Or.inr rfl))
      (pss_cons (ps_setLc (i := 7) (own := [("_law_number_here", 12)]) (g := gName 12) rfl sc_law.nd rfl rfl (sw_true rfl rfl rfl (by decide +kernel)) (pi_range1 (by rfl) T.b_range (pa_cons (pe_callB (call_min2 rfl) (by rfl) T.b_min (by decide +kernel) (pa_cons (pv 6) (pa_cons pe_int pa_nil))) pa_nil)) (blkOk_by (N := N_law) (sc := defScope s_law) (by decide +kernel)) (fun _ _ _ _ _ => (pg_name (i := 12) sc_law.nd rfl (by first | exact Or.inl rfl | exact Or.inr rfl))) (fun _ _ _ _ _ => pts_nil) (fun _ _ _ _ _ => (pe_call G_mark (hr.mono (by decide)) (by rfl) D_mark.g D_mark.F.kp D_mark.b .nil SX.passN (pa_cons (pv 6) (pa_cons (pv 12) pa_nil)))))
      (pss_cons (ps_set (i := 4) sc_law.nd rfl (by first | exact Or.inl rfl | exact Or.inr rfl) (pe_op op_cat (pv 4) (pe_lst (pa_cons (pv 7) (pa_cons (pe_call G_number_of (hr.mono (by decide)) (by rfl) D_number_of.g D_number_of.F.kp D_number_of.b .nil SX.passN (pa_cons (pv 6) (pa_cons (pe_ix ix_list (pv 7) (pe_un un_neg pe_int) (fun _ _ => rfl)) pa_nil))) (pa_cons (pe_call G_number_of (hr.mono (by decide)) (by rfl) D_number_of.g D_number_of.F.kp D_number_of.b .nil SX.passN (pa_cons (pv 6) (pa_cons (pe_ix ix_list (pv 7) pe_int (fun _ _ => rfl)) pa_nil))) (pa_cons (pe_call G_two_of (hr.mono (by decide)) (by rfl) D_two_of.g D_two_of.F.kp D_two_of.b .nil SX.passN (pa_cons (pv 6) (pa_cons (pe_op op_add (pe_ix ix_list (pv 7) pe_int (fun _ _ => rfl)) (pe_ix ix_list (pv 7) pe_int (fun _ _ => rfl))) pa_nil))) pa_nil)))))))
      (pss_cons (ps_set (i := 4) sc_law.nd rfl (by first | exact Or.inl rfl | exact Or.inr rfl) (pe_op op_cat (pv 4) (pe_lst (pa_cons (pe_call G_two_of (hr.mono (by decide)) (by rfl) D_two_of.g D_two_of.F.kp D_two_of.b .nil SX.passN (pa_cons (pv 6) (pa_cons (pe_op op_mul pe_int (pe_ix ix_list (pv 7) pe_int (fun _ _ => rfl))) pa_nil))) (pa_cons (pe_call G_two_of (hr.mono (by decide)) (by rfl) D_two_of.g D_two_of.F.kp D_two_of.b .nil SX.passN (pa_cons (pv 6) (pa_cons (pe_un un_neg pe_int) pa_nil))) (pa_cons (pe_call G_apart_by (hr.mono (by decide)) (by rfl) D_apart_by.g D_apart_by.F.kp D_apart_by.b .nil SX.passN (pa_cons (pv 6) (pa_cons (pe_op op_sub (pe_ix ix_list (pv 7) pe_int (fun _ _ => rfl)) (pe_ix ix_list (pv 7) pe_int (fun _ _ => rfl))) pa_nil))) pa_nil))))))
      (pss_cons (ps_set (i := 4) sc_law.nd rfl (by first | exact Or.inl rfl | exact Or.inr rfl) (pe_op op_cat (pv 4) (pe_lst (pa_cons (pe_call G_apart_by (hr.mono (by decide)) (by rfl) D_apart_by.g D_apart_by.F.kp D_apart_by.b .nil SX.passN (pa_cons (pv 6) (pa_cons pe_int pa_nil))) pa_nil))))
      (pss_one (ps_expr (pe_bm PySem.F.plainAttrs_list PySem.F.slot_list_append PySem.F.type_list_append mt_append (pv 4) (pa_cons (pe_call G_behind (hr.mono (by decide)) (by rfl) D_behind.g D_behind.F.kp D_behind.b .nil SX.passN (pa_cons (pv 7) pa_nil)) pa_nil)))))))))
      (pss_cons (ps_for PassesOwn.never rfl (pi_list (pe_lst (pa_cons (pv 3) (pa_cons (pe_lst pa_nil) (pa_cons (pe_lst (pa_cons pe_int pa_nil)) (pa_cons (pe_lst (pa_cons pe_int (pa_cons pe_int (pa_cons pe_int pa_nil)))) (pa_cons (pe_lst (pa_cons pe_int (pa_cons pe_int (pa_cons pe_int pa_nil)))) (pa_cons (pe_lc (own := [("_law_number_here", 12)]) (g := gName 12) rfl sc_law.nd (pi_range1 (by rfl) T.b_range (pa_cons pe_int pa_nil)) (blkOk_by (N := N_law) (sc := defScope s_law) (by decide +kernel)) (fun _ _ _ _ _ => (pg_name (i := 12) sc_law.nd rfl (by first | exact Or.inl rfl | exact Or.inr rfl))) (fun _ _ _ _ _ => pts_nil) (fun _ _ _ _ _ => (pe_call G_mark (hr.mono (by decide)) (by rfl) D_mark.g D_mark.F.kp D_mark.b .nil SX.passN (pa_cons pe_int (pa_cons (pv 12) pa_nil))))) pa_nil)))))))) (pg_name (i := 8) sc_law.nd rfl (by first | exact Or.inl rfl | exact Or.inr rfl))
      (pss_cons (ps_set (i := 9) sc_law.nd rfl (by first | exact Or.inl rfl | exact Or.inr rfl) (pe_call G_told (hr.mono (by decide)) (by rfl) D_told.g D_told.F.kp D_told.b .nil SX.passN (pa_cons (pv 8) pa_nil)))
      (Evl.pss_cut (ps_if (pt_val (pe_callB call_isi (by rfl) T.b_isinstance (by decide +kernel) (pa_cons (pv 9) (pa_cons (pe_glob (v := .ref _) (by rfl) g_Same rfl) pa_nil))))
      (pss_cons (ps_set (i := 4) sc_law.nd rfl (by first | exact Or.inl rfl | exact Or.inr rfl) (pe_op op_cat (pv 4) (pe_lst (pa_cons (pe_fld (pv 9) rfl) (pa_cons (pe_fld (pv 9) rfl) pa_nil)))))
      (pss_one (ps_if (PW.pt (pw_or (pt_not (pt_val (pe_callB call_isi (by rfl) T.b_isinstance (by decide +kernel) (pa_cons (pe_fld (pv 9) rfl) (pa_cons (pe_bltn (v := .ty "tuple") (by rfl) T.b_tuple (by decide +kernel) rfl) pa_nil))))) (pw_or1 (pt_not (pt_val (pe_callB call_isi (by rfl) T.b_isinstance (by decide +kernel) (pa_cons (pe_fld (pv 9) rfl) (pa_cons (pe_bltn (v := .ty "tuple") (by rfl) T.b_tuple (by decide +kernel) rfl) pa_nil))))))))
      (pss_one (ps_ret pe_bl))
      pss_nil)))
      pss_nil)
      (pss_one (ps_set (i := 5) sc_law.nd rfl (by first | exact Or.inl rfl | exact Or.inr rfl) (pe_op op_cat (pv 5) (pe_lc (own := [("_law_built", 13)]) (g := gName 13) rfl sc_law.nd (pi_list (pe_lst (pa_cons (pv 9) (pa_cons (SX.pe_makeO Mk_Apart (by rfl) g_Apart) (pa_cons (pe_make Mk_Same G_Same_init (hr.mono (by decide)) (by rfl) g_Same b_Same_init .nil pass0 (pa_cons (pe_tup (pa_cons pe_int (pa_cons pe_int pa_nil))) (pa_cons (pe_tup (pa_cons pe_int (pa_cons pe_int pa_nil))) pa_nil))) pa_nil))))) (blkOk_by (N := N_law) (sc := defScope s_law) (by decide +kernel)) (fun _ _ _ _ _ => (pg_name (i := 13) sc_law.nd rfl (by first | exact Or.inl rfl | exact Or.inr rfl))) (fun _ _ _ _ _ => pts_nil) (fun _ _ _ _ _ => (SX.pe_either (pe_meth (pv 13) C_Same_shows me_Same_shows G_Same_shows (hr.mono (by decide)) b_Same_shows .nil pass0 (pa_cons (pv 8) pa_nil)) (pe_meth (pv 13) C_Apart_shows me_Apart_shows G_Apart_shows (hr.mono (by decide)) b_Apart_shows .nil pass0 (pa_cons (pv 8) pa_nil)))))))))))
      (pss_one (ps_ret (pe_and (pe_call G_law_plain (hr.mono (by decide)) (by rfl) D_law_plain.g D_law_plain.F.kp D_law_plain.b .nil pass0 (pa_cons (pv 4) pa_nil)) (pe_one (pe_call G_law_truths (hr.mono (by decide)) (by rfl) D_law_truths.g D_law_truths.F.kp D_law_truths.b .nil pass0 (pa_cons (pv 5) pa_nil))))))))))))), ?_⟩
    refine q_prom (fun Q q => ea_nil H (Ex.refl H) _ fun H1 e1 => ⟨rfl, hT.ext e1, fun H2 e2 => q H2 ((exn_of e1).trans e2)⟩) fun H0 e0 => ?_
    have hS := exn_l e0 hS0
    refine q_asg (ev_abs (ev_sumN (el_cutTake (k := 63) (ev_var rfl) (eo_some ev_c) hS))) fun H1 e1 => ?_
    generalize (if (ns.take 63).sum < 0 then -(ns.take 63).sum else (ns.take 63).sum) = W
    refine q_asgL (el_cells (hu := rNeD K) (k := 7) (d := 5) rfl (ex_l e1 hS)) fun c H2 hc e2 h2 => ?_
    have cl : (cellsOf ns 7 5).length ≤ 7 := cells_len (by decide)
    have cb : ∀ z ∈ cellsOf ns 7 5, Builtin.Int.intBits z ≤ 1048576 := cells_bits (by decide) hbits
    generalize cellsOf ns 7 5 = cs at h2 cl cb
    -- marks drawn
    refine q_asgP (evp_sortSetN (el_lcEi (cs := cs) (fun i : Nat => (if number (cs.getD i 0) i W < 0 then -(number (cs.getD i 0) i W) else number (cs.getD i 0) i W) / 3 % 90 - 30) (ev_var rfl) (sq_of h2) (by omega) (fun y x => rfl) fun i z H4 e4 hi hz hzi => ?_) (by rw [List.length_map, List.length_range]; omega)) fun v H3 e3 hv => ?_
    · rw [hzi]
      have hb := cb z hz
      have hcall : Ev (tCall spNum [] E0 (tCons (tVar 11) (tCons (tVar 10) (tCons (tVar 1) tNil)))) ((((wipe [some (.ref a), some (.int W), some (.ref c), none, none, none, none, none, none, none, none, none, none, none] [10, 11]).set 10 (some (.int (i : Int)))).set 11 (some (.int z)))) H4 (.int (number z i W)) := ev_call (by walk_at "ev") fun H5 e5 Q5 q5 E5 => ⟨z, i, W, rfl, Nat.le_trans hb (by decide), by omega, by omega, q5⟩
      generalize number z i W = N at hcall ⊢
      have ha := ev_abs hcall
      generalize (if N < 0 then -N else N) = B at ha ⊢
      have d1 : CDivW B 3 := cdiv_small (by decide) (by decide)
      exact ev_op (ev_op (ev_op ha ev_c (rv_I d1)) ev_c (rv_I (C := fun _ j : Int => 0 < j) (by decide))) ev_c rv_I0
    obtain ⟨dr, ds, rfl, hdr, drise, dlen⟩ := hv
    rw [List.length_map, List.length_range] at dlen
    refine q_parLL (el_lst ea_nil (by decide)) (el_lst ea_nil (by decide)) fun pf ps H4 e4 hpf hps => ?_
    -- things told of primes
    obtain ⟨pv3, hpv, hat3⟩ := three (W := W) 7 11 101
    have S0 : (∀ (H' : Hp), Ex H4 H' → Ex H4 H') := fun _ h => h
    refine q_forNLn (el_ints [3, 5, pv3] (ea_cons ev_c (ea_cons ev_c (ea_cons (ev_ixU (eu_ints [7, 11, 101] (by walk_at "ev") (by exact rfl) (by decide)) (ev_op (ev_var rfl) ev_c (rv_I (C := fun _ j : Int => 0 < j) (by decide))) hat3) ea_nil))) (by exact rfl) (by show 3 ≤ 100000; decide)) (fun l i σ' H' => ∃ vf y6 y7, σ' = [some (.ref a), some (.int W), some (.ref c), some (.ref dr), some vf, some (.ref ps), y6, y7, none, none, none, none, none, none] ∧ Ex H4 H' ∧ LstN (PlV 1) (9 * i) vf H' ∧ H' l = some (.lst (([3, 5, pv3] : List Int).map V.int)) ∧ i ≤ 3)
      (fun l H5 hl5 e5 h5 => ⟨_, _, _, rfl, e5, ⟨pf, [], rfl, e5 pf _ hpf, rfl, fun x hx => absurd hx (by simp)⟩, h5, Nat.zero_le _⟩) (fun l i σ' H' _ ⟨_, _, _, _, _, _, h, _⟩ => sq_of h) ?_ ?_
    · rintro l i x σ' H5 hx ⟨vf, y6, y7, rfl, e5, h5, hl5, _⟩
      obtain ⟨p, hp0, rfl, hi3⟩ := get_ints hx
      have hi3 : i < 3 := hi3
      have hp5 : p = 3 ∨ p = 5 ∨ p = 7 ∨ p = 11 ∨ p = 101 := by
        simp only [List.mem_cons, List.not_mem_nil, or_false] at hp0
        omega
      have hp := primes5 hp5
      obtain ⟨m, hm, m3, m9, mp⟩ : ∃ m : Nat, (if (9 : Int) < p then 9 else p) = (m : Int) ∧ 3 ≤ m ∧ m ≤ 9 ∧ (m : Int) ≤ p := by
        rcases hp5 with rfl | rfl | rfl | rfl | rfl
        · exact ⟨3, by decide, by decide, by decide, by decide⟩
        · exact ⟨5, by decide, by decide, by decide, by decide⟩
        · exact ⟨7, by decide, by decide, by decide, by decide⟩
        · exact ⟨9, by decide, by decide, by decide, by decide⟩
        · exact ⟨9, by decide, by decide, by decide, by decide⟩
      have p3 : 3 ≤ p := hp.1
      have p6 := hp.2.1
      have p0 : 0 < p := by omega
      -- the row
      refine q_asgL (xs := (rowL m p).map V.int) (el_lcR1i (n := m) (fun i => NT.place p (i : Int)) (ea_cons (ev_is (ev_min2 (ev_var rfl) ev_c) (congrArg V.int hm)) ea_nil) (by omega) (fun x => rfl) fun j H6 e6 hj => ev_mk (ev_var rfl) (ev_var rfl) hp (by omega) (by omega)) fun rw_ H6 hr6 e6 h6 => ?_
      have hlast : atI ((rowL m p).map V.int) (-1) = some (.int (NT.place p ((m - 1 : Nat) : Int))) := by
        have := at_last (ns := rowL m p) (by rw [row_len]; omega)
        rw [row_last (by omega)] at this
        exact this
      have i0 : ∀ {σ : L2.St} {H7 : Hp}, σ[7]? = some (some (V.ref rw_)) → Ex H6 H7 → Ev (tOp (rIxL K) (tVar 7) (tC (.int 0))) σ H7 (.int (NT.place p 0)) := fun hs e => ev_ixL (ev_var hs) ev_c (sq_of (e rw_ _ h6)) (row_at (j := 0) (by omega))
      have i1 : ∀ {σ : L2.St} {H7 : Hp}, σ[7]? = some (some (V.ref rw_)) → Ex H6 H7 → Ev (tOp (rIxL K) (tVar 7) (tC (.int 1))) σ H7 (.int (NT.place p 1)) := fun hs e => ev_ixL (ev_var hs) ev_c (sq_of (e rw_ _ h6)) (row_at (j := 1) (by omega))
      have i2 : ∀ {σ : L2.St} {H7 : Hp}, σ[7]? = some (some (V.ref rw_)) → Ex H6 H7 → Ev (tOp (rIxL K) (tVar 7) (tC (.int 2))) σ H7 (.int (NT.place p 2)) := fun hs e => ev_ixL (ev_var hs) ev_c (sq_of (e rw_ _ h6)) (row_at (j := 2) (by omega))
      have il : ∀ {σ : L2.St} {H7 : Hp}, σ[7]? = some (some (V.ref rw_)) → Ex H6 H7 → Ev (tOp (rIxL K) (tVar 7) (tUn (rU fun i => .int (-i)) (tC (.int 1)))) σ H7 (.int (NT.place p ((m - 1 : Nat) : Int))) := fun hs e => ev_ixL (ev_var hs) (ev_un ev_c ru_neg) (sq_of (e rw_ _ h6)) hlast
      refine q_asgP (P := LstN (PlV 1) (9 * i + 4)) (evp_cat (n := 9 * i) (k := 4) mPl (evp_ev (ev_var rfl) fun H7 e7 => LstN.mono mPl _ _ _ (e6.trans e7) h5) (evp_lst (n := 4) mPl (eal_cons mPl (evp_ev (ev_var rfl) fun H7 e7 => plv_ints (.inl (e7 rw_ _ h6)) (by rw [row_len]; omega)) <| eal_cons mPl (evl_int (ev_numOf (n := ((m - 1 : Nat) : Int)) (ev_var rfl) (il rfl (Ex.refl _)) hp (by omega) (by omega) rfl)) <| eal_cons mPl (evl_int (ev_numOf (n := 0) (ev_var rfl) (i0 rfl (Ex.refl _)) hp (by decide) (by omega) rfl)) <| eal_cons mPl (evl_two (ev_var rfl) (ev_op (i0 rfl (Ex.refl _)) (i1 rfl (Ex.refl _)) rv_I0) hp) eal_nil) (by decide)) (by omega)) fun v7 H7 e7 h7 => ?_
      have c1 : CMul (2 : Int) (NT.place p 1) := cmul_l (by decide) (by decide)
      refine q_asgP (P := LstN (PlV 1) (9 * i + 4 + 3)) (evp_cat (n := 9 * i + 4) (k := 3) mPl (evp_ev (ev_var rfl) fun H8 e8 => LstN.mono mPl _ _ _ e8 h7) (evp_lst (n := 3) mPl (eal_cons mPl (evl_two (ev_var rfl) (ev_op ev_c (i1 rfl e7) (rv_I c1)) hp) <| eal_cons mPl (evl_two (ev_var rfl) (ev_un ev_c ru_neg) hp) <| eal_cons mPl (evl_apt (ev_var rfl) (ev_op (i2 rfl e7) (i1 rfl e7) rv_I0) hp (place_gap p3)) eal_nil) (by decide)) (by omega)) fun v8 H8 e8 h8 => ?_
      obtain ⟨q8, xs8, rfl, hq8, hl8, hx8⟩ := h8
      refine q_asgP (evp_cat1F (mPl (k := 1)) (ev_var rfl) hq8 (by omega) (evl_apt (ev_var rfl) ev_c hp (by decide))) fun v9 H10 e10 h9 => ?_
      obtain ⟨q9, x9, H9, rfl, e89, hn9, e9, hq9, hx9⟩ := h9
      have h6' := (((e7.trans e8).trans e89).trans e9) rw_ _ h6
      refine s_appP hq9 (ev_var rfl) (evp_behind (evp_ev (ev_var rfl) fun H11 e11 => ⟨rw_, rfl, e11 rw_ _ h6', by rw [row_len]; omega, row_rise p0⟩) (row_apart hp mp)) (by rw [List.length_append]; show xs8.length + 1 < 100000; omega) fun v11 H11 e11 h11 => ?_
      obtain ⟨L, rfl, _⟩ := h11
      have e59 : Ex H5 H9 := ((e6.trans e7).trans e8).trans e89
      have eN : Ex H9 (upd H11 q9 (.lst (xs8 ++ [x9] ++ [.int L]))) := Ex.mut (e9.trans e11) hn9
      refine ⟨_, _, _, rfl, (e5.trans e59).trans eN, ⟨q9, _, rfl, upd_same, ?_, fun z hz => ?_⟩, (e59.trans eN) l _ hl5, by omega⟩
      · rw [List.length_append, List.length_append, hl8]
        show 9 * i + 4 + 3 + 1 + 1 = _
        omega
      · rcases List.mem_append.mp hz with h | h
        · rcases List.mem_append.mp h with h | h
          · exact mPl _ _ _ (e89.trans eN) (hx8 z h)
          · rw [List.mem_singleton.mp h]
            exact mPl _ _ _ eN hx9
        · rw [List.mem_singleton.mp h]
          exact plv_int
    · rintro l σ' H5 ⟨vf, y6, y7, rfl, e5, h5, _, _⟩
      -- answers told
      have mB : Mono (fun v (_ : Hp) => IsB v) := fun _ _ _ _ h => h
      have g5 : EvP (tLc (iRng1 (tCons (tC (.int 5)) tNil)) (gName 12) tYes (tCall (spMark CP CU) [] E0 (tCons (tC (.int 5)) (tCons (tVar 12) tNil))) [12]) [some (.ref a), some (.int W), some (.ref c), some (.ref dr), some vf, some (.ref ps), y6, y7, none, none, none, none, none, none] H5 SomeG :=
        evp_evL (xs := (rowL 5 5).map V.int) (el_lcR1i (n := 5) (fun i => NT.place 5 (i : Int)) (ea_cons ev_c ea_nil) (by decide) (fun x => rfl) fun j H6 e6 hj => ev_mk ev_c (ev_var rfl) (NT.pri_small (by decide)) (by omega) (by omega)) fun q H6 _ h6 => ⟨rowL 5 5, q, rfl, h6, by rw [row_len]; decide, row_rise (by decide)⟩
      refine q_forP (evp_lst (n := 6) SomeG.mono (eal_cons SomeG.mono (evp_ev (ev_var rfl) fun H6 e6 => ⟨ds, dr, rfl, ((e4.trans e5).trans e6) dr _ hdr, by omega, drise⟩) <| eal_cons SomeG.mono (evg (evp_good [] ea_nil (by exact rfl) (by decide) (by decide))) <| eal_cons SomeG.mono (evg (evp_good [7] (by walk_at "ev") (by exact rfl) (by decide) (by decide))) <|
        eal_cons SomeG.mono (evg (evp_good [0, 1, 2] (by walk_at "ev") (by exact rfl) (by decide) (by decide))) <| eal_cons SomeG.mono (evg (evp_good [0, 1, 3] (by walk_at "ev") (by exact rfl) (by decide) (by decide))) <| eal_cons SomeG.mono g5 eal_nil) (by decide)) fun vl H6 e6 hvl => ?_
      obtain ⟨l6, xs6, rfl, hl6, hn6, hx6⟩ := hvl
      refine ⟨l6, xs6, fun i σ' H' => ∃ vf vs n y6 y7 y8 y9, σ' = [some (.ref a), some (.int W), some (.ref c), some (.ref dr), some vf, some vs, y6, y7, y8, y9, none, none, none, none] ∧ Ex H6 H' ∧ LstN (PlV 1) n vf H' ∧ n ≤ 27 + 2 * i ∧ LstN (fun v _ => IsB v) (3 * i) vs H', rfl,
        ⟨_, _, 27, _, _, _, _, rfl, Ex.refl _, LstN.mono mPl _ _ _ e6 h5, by omega, ⟨ps, [], rfl, (e5.trans e6) ps _ hps, rfl, fun x hx => absurd hx (by simp)⟩⟩, fun i σ' H' _ ⟨_, _, _, _, _, _, _, _, e7, _⟩ => sq_of (e7 l6 _ hl6), ?_, ?_⟩
      · rintro i x σ' H7 hx ⟨vf, vs, n, y6, y7, y8, y9, rfl, e7, h7, hn, hs7⟩
        have hi6 : i < 6 := by
          have := (List.getElem?_eq_some_iff.mp hx).1
          omega
        obtain ⟨ms, hms⟩ := SomeG.mono _ _ _ e7 (hx6 x (List.mem_of_getElem? hx))
        refine q_asgP (evp_told (evp_ev (ev_var rfl) fun H8 e8 => good_mono _ _ _ e8 hms)) fun an H8 e8 han => ?_
        refine q_cut (M := fun σ' H' => ∃ vf n, σ' = [some (.ref a), some (.int W), some (.ref c), some (.ref dr), some vf, some vs, y6, y7, some x, some an, none, none, none, none] ∧ Ex H8 H' ∧ LstN (PlV 1) n vf H' ∧ n ≤ 27 + 2 * (i + 1)) ?_ ?_
        · refine s_when (et_B (ev_isTold (C := C) (C2 := C2) (ns := ms) (evp_ev (ev_var rfl) fun H9 e9 => ToldV.mono _ _ _ e9 han) fun v H9 h => rc_toldS KQ h)) (fun hb H9 e9 => ?_) fun hb H9 e9 => ⟨vf, n, rfl, e9, LstN.mono mPl _ _ _ (e8.trans e9) h7, by omega⟩
          rcases ToldV.mono _ _ _ e9 han with ⟨q, dx, h1, h2, h3⟩ | ⟨q, dx, t1, t2, p1, p2, rfl, hq, ha, hb2, h5'⟩
          · rw [decide_eq_true h3] at hb
            exact nomatch hb
          · have f1 : ∀ {σ : L2.St} {H10 : Hp}, σ[9]? = some (some (V.ref q)) → Ex H9 H10 → Ev (tFld K (tVar 9) "one") σ H10 (.ref t1) := fun hs e => ev_fld (ev_var hs) (e q _ hq) TS.cl TS.n1 (flds_one _ _)
            have f2 : ∀ {σ : L2.St} {H10 : Hp}, σ[9]? = some (some (V.ref q)) → Ex H9 H10 → Ev (tFld K (tVar 9) "other") σ H10 (.ref t2) := fun hs e => ev_fld (ev_var hs) (e q _ hq) TS.cl TS.n2 (flds_other _ _)
            refine q_asgP (P := LstN (PlV 1) (n + 2)) (evp_cat (n := n) (k := 2) mPl (evp_ev (ev_var rfl) fun H10 e10 => LstN.mono mPl _ _ _ ((e8.trans e9).trans e10) h7) (evp_lst (n := 2) mPl (eal_cons mPl (evp_ev (f1 rfl (Ex.refl _)) fun H10 e10 => plv_ints (.inr (e10 _ _ ha)) (by show 2 ≤ 1000; decide)) <| eal_cons mPl (evp_ev (f2 rfl (Ex.refl _)) fun H10 e10 => plv_ints (.inr (e10 _ _ hb2)) (by show 2 ≤ 1000; decide)) eal_nil) (by decide)) (by omega)) fun v10 H10 e10 h10 => ?_
            refine s_when (b := false) (et_or (a := false) (b := false) (et_not (a := true) (et_B (ev_cb (ea_cons (f1 rfl e10) (ea_cons ev_c ea_nil)) (rc_isiTup (e10 _ _ ha) (by decide +kernel))))) fun _ => et_not (a := true) (et_B (ev_cb (ea_cons (f2 rfl e10) (ea_cons ev_c ea_nil)) (rc_isiTup (e10 _ _ hb2) (by decide +kernel))))) (fun h => nomatch h) fun _ H11 e11 => ⟨v10, n + 2, rfl, (e9.trans e10).trans e11, LstN.mono mPl _ _ _ e11 h10, by omega⟩
        · rintro σ' H9 ⟨vf, n, rfl, e9, h9, hn9⟩
          obtain ⟨am, rfl, ham, hml, hmr⟩ := good_mono _ _ _ (e8.trans e9) hms
          have hab := AnsB.mono _ _ _ e9 (ansB_told han)
          refine s_asgP (P := LstN (fun v _ => IsB v) (3 * i + 3)) (evp_cat (n := 3 * i) (k := 3) mB (evp_ev (ev_var rfl) fun H10 e10 => LstN.mono mB _ _ _ ((e8.trans e9).trans e10) hs7) (evp_lcP (P := AnsB C C2) (R := IsB) (n := 3) AnsB.mono (evp_lst (n := 3) AnsB.mono (eal_cons AnsB.mono (evp_ev (ev_var rfl) fun H10 e10 => AnsB.mono _ _ _ e10 hab) <| eal_cons AnsB.mono (evp_makeO.imp fun v H10 _ h => .inl h) <| eal_cons AnsB.mono (evb_same (as := [0, 0]) (bs := [0, 0]) (by walk_at "tup") (by walk_at "tup")) eal_nil) (by decide)) (by decide) (fun x => rfl) fun x H10 e10 hx => evp_shows hx (ev_var rfl) (ev_var rfl) (ev_var rfl) (ev_var rfl) (sq_of (e10 am _ ham)) (by omega)) (by omega)) fun v10 H10 e10 h10 => ?_
          exact ⟨vf, v10, n, _, _, _, _, rfl, ((e7.trans e8).trans e9).trans e10, LstN.mono mPl _ _ _ e10 h9, hn9, h10⟩
      · rintro σ' H7 ⟨vf, vs, n, y6, y7, y8, y9, rfl, e7, h7, hn, hs7⟩
        obtain ⟨p7, xs7, rfl, hp7, hl7, hx7⟩ := h7
        obtain ⟨q7, zs7, rfl, hq7, hm7, hz7⟩ := hs7
        obtain ⟨bs, rfl⟩ := isB_all zs7 hz7
        rw [List.length_map] at hm7
        have hpl : PlV 2 (.ref p7) H7 := .inr ⟨p7, xs7, rfl, .inl hp7, by omega, hx7⟩
        refine s_ret (v := .bl true) (ev_andV (a := true) (b := true) (ev_call (by walk_at "ev") fun H8 e8 Q8 q8 E8 => ⟨_, rfl, mPl _ _ _ e8 hpl, q8⟩) fun _ => ev_call (by walk_at "ev") fun H8 e8 Q8 q8 E8 => ⟨q7, bs, rfl, e8 q7 _ hq7, by omega, q8⟩) fun H8 e8 => k H8
end
end K7
namespace K7
open PySem PySem.Spec PyProof.Rows L2 Evl SX SM
theorem all_mk {l : PySem.W.OpenLaw} {w : World} {K : PySem.W.Frag} {h : Heap} {mg : Str → Option Value} {fa cTc cTp C C2 CM CB CU CP CK CN f1 f2 f3 f4 f5 f6 f7 f8 f9 f10 f11 f12 f13 f14 f15 f16 f17 f18 f19 f20 f21 f22 f23 f24 f25 f26 f27 f28 f29 f30 f31 f32 : Addr} (X : K.In h) (G : h.Ns mainGlobals mg) (hfa : mg "law" = some (.ref fa))
    {od1 an1 od2 an2 od3 an3 od4 an4 od5 an5 od6 an6 od7 an7 od8 an8 od9 an9 od10 an10 od11 an11 od12 an12 od13 an13 od14 an14 od15 an15 od16 an16 od17 an17 od18 an18 od19 an19 od20 an20 od21 an21 od22 an22 od23 an23 od24 an24 od25 an25 od26 an26 od27 an27 od28 an28 od29 an29 od30 an30 od31 an31 od32 an32 : Option Addr} {sl1 sl2 sl3 sl4 sl5 sl6 sl7 sl8 sl9 sl10 sl11 sl12 sl13 sl14 sl15 sl16 sl17 sl18 sl19 sl20 sl21 sl22 sl23 sl24 sl25 sl26 sl27 sl28 sl29 sl30 sl31 sl32 : Array (Option Value)} {oc1 kV1 dc1 pm1 cd1 ct1 oc2 kV2 dc2 pm2 cd2 ct2 oc3 kV3 dc3 pm3 cd3 ct3 oc4 kV4 dc4 pm4 cd4 ct4 oc5 kV5 dc5 pm5 cd5 ct5 oc6 kV6 dc6 pm6 cd6 ct6 oc7 kV7 dc7 pm7 cd7 ct7 oc8 kV8 dc8 pm8 cd8 ct8 oc9 kV9 dc9 pm9 cd9 ct9 oc10 kV10 dc10 pm10 cd10 ct10 oc11 kV11 dc11 pm11 cd11 ct11 oc12 kV12 dc12 pm12 cd12 ct12 oc13 kV13 dc13 pm13 cd13 ct13 oc14 kV14 dc14 pm14 cd14 ct14 oc15 kV15 dc15 pm15 cd15 ct15 oc16 kV16 dc16 pm16 cd16 ct16 oc17 kV17 dc17 pm17 cd17 ct17 oc18 kV18 dc18 pm18 cd18 ct18 oc19 kV19 dc19 pm19 cd19 ct19 oc20 kV20 dc20 pm20 cd20 ct20 oc21 kV21 dc21 pm21 cd21 ct21 oc22 kV22 dc22 pm22 cd22 ct22 oc23 kV23 dc23 pm23 cd23 ct23 oc24 kV24 dc24 pm24 cd24 ct24 oc25 kV25 dc25 pm25 cd25 ct25 oc26 kV26 dc26 pm26 cd26 ct26 oc27 kV27 dc27 pm27 cd27 ct27 oc28 kV28 dc28 pm28 cd28 ct28 oc29 kV29 dc29 pm29 cd29 ct29 oc30 kV30 dc30 pm30 cd30 ct30 oc31 kV31 dc31 pm31 cd31 ct31 oc32 kV32 dc32 pm32 cd32 ct32 : Value} {tc_GREATEST_PRIME tc_MOST_MARKS : Tok}
    (aC : PySem.W.nsIn K mainGlobals "Same" = some (some (.ref C)))
    (aC2 : PySem.W.nsIn K mainGlobals "Apart" = some (some (.ref C2)))
    (aCM : PySem.W.nsIn K mainGlobals "MarkError" = some (some (.ref CM)))
    (aCB : PySem.W.nsIn K mainGlobals "BadMarks" = some (some (.ref CB)))
    (aCU : PySem.W.nsIn K mainGlobals "BadNumber" = some (some (.ref CU)))
    (aCP : PySem.W.nsIn K mainGlobals "BadPrime" = some (some (.ref CP)))
    (aCK : PySem.W.nsIn K mainGlobals "NoMark" = some (some (.ref CK)))
    (aCN : PySem.W.nsIn K mainGlobals "NotApart" = some (some (.ref CN)))
    (cn_GREATEST_PRIME : PySem.W.nsIn K mainGlobals "GREATEST_PRIME" = some (some (.int 1000000 tc_GREATEST_PRIME)))
    (cn_MOST_MARKS : PySem.W.nsIn K mainGlobals "MOST_MARKS" = some (some (.int 40 tc_MOST_MARKS)))
    (fb_isqrt : PySem.W.nsIn K mainGlobals "isqrt" = some (some (.builtin "math.isqrt")))
    (xCM : PySem.W.excIn K CM [.type "ValueError", .type "Exception", .type "BaseException", .type "object"] "ValueError.__new__" = true)
    (kCM : PySem.W.keepIn K (.ref CM) = true)
    (bCM : PySem.W.subIn K (.ref CM) (.type "BaseException") = some true)
    (tCM : PySem.W.typeIn K (.ref CM) = some (.type "type"))
    (xCB : PySem.W.excIn K CB [.type "ValueError", .type "Exception", .type "BaseException", .type "object"] "ValueError.__new__" = true)
    (kCB : PySem.W.keepIn K (.ref CB) = true)
    (bCB : PySem.W.subIn K (.ref CB) (.type "BaseException") = some true)
    (tCB : PySem.W.typeIn K (.ref CB) = some (.type "type"))
    (xCU : PySem.W.excIn K CU [.type "ValueError", .type "Exception", .type "BaseException", .type "object"] "ValueError.__new__" = true)
    (kCU : PySem.W.keepIn K (.ref CU) = true)
    (bCU : PySem.W.subIn K (.ref CU) (.type "BaseException") = some true)
    (tCU : PySem.W.typeIn K (.ref CU) = some (.type "type"))
    (xCP : PySem.W.excIn K CP [.type "ValueError", .type "Exception", .type "BaseException", .type "object"] "ValueError.__new__" = true)
    (kCP : PySem.W.keepIn K (.ref CP) = true)
    (bCP : PySem.W.subIn K (.ref CP) (.type "BaseException") = some true)
    (tCP : PySem.W.typeIn K (.ref CP) = some (.type "type"))
    (xCK : PySem.W.excIn K CK [.type "ValueError", .type "Exception", .type "BaseException", .type "object"] "ValueError.__new__" = true)
    (kCK : PySem.W.keepIn K (.ref CK) = true)
    (bCK : PySem.W.subIn K (.ref CK) (.type "BaseException") = some true)
    (tCK : PySem.W.typeIn K (.ref CK) = some (.type "type"))
    (xCN : PySem.W.excIn K CN [.type "ValueError", .type "Exception", .type "BaseException", .type "object"] "ValueError.__new__" = true)
    (kCN : PySem.W.keepIn K (.ref CN) = true)
    (bCN : PySem.W.subIn K (.ref CN) (.type "BaseException") = some true)
    (tCN : PySem.W.typeIn K (.ref CN) = some (.type "type"))
    (jaC : PySem.W.findIn K (.ref C) "__class__" = some (some (.builtin "object.__class__")))
    (jmC : PySem.W.mroIn K C (.type "object") = some true)
    (jaC2 : PySem.W.findIn K (.ref C2) "__class__" = some (some (.builtin "object.__class__")))
    (jmC2 : PySem.W.mroIn K C2 (.type "object") = some true)
    (jaCK : PySem.W.findIn K (.ref CK) "__class__" = some (some (.builtin "object.__class__")))
    (jmCK : PySem.W.mroIn K CK (.type "object") = some true)
    (jaCN : PySem.W.findIn K (.ref CN) "__class__" = some (some (.builtin "object.__class__")))
    (jmCN : PySem.W.mroIn K CN (.type "object") = some true)
    (jn : PySem.W.specialIn K (.builtin "object.__class__") "__get__" = some (some (.builtin "getset_descriptor.__get__")))
    (jt : PySem.W.takesIn K (.builtin "object.__class__") = some true)
    (hdCM : PySem.W.hasDictIn K CM = true)
    (ssCM : PySem.W.subIn K (.ref CM) (.ref CM) = some true)
    (hdCB : PySem.W.hasDictIn K CB = true)
    (ssCB : PySem.W.subIn K (.ref CB) (.ref CB) = some true)
    (hdCU : PySem.W.hasDictIn K CU = true)
    (ssCU : PySem.W.subIn K (.ref CU) (.ref CU) = some true)
    (hdCP : PySem.W.hasDictIn K CP = true)
    (ssCP : PySem.W.subIn K (.ref CP) (.ref CP) = some true)
    (hdCK : PySem.W.hasDictIn K CK = true)
    (ssCK : PySem.W.subIn K (.ref CK) (.ref CK) = some true)
    (hdCN : PySem.W.hasDictIn K CN = true)
    (ssCN : PySem.W.subIn K (.ref CN) (.ref CN) = some true)
    (gaCK : PySem.W.findIn K (.ref CK) "__getattribute__" = some (some (.builtin "BaseException.__getattribute__")))
    (gtCK : PySem.W.findIn K (.ref CK) "__getattr__" = some none)
    (sCK_CM : PySem.W.subIn K (.ref CK) (.ref CM) = some true)
    (sCK_CN : PySem.W.subIn K (.ref CK) (.ref CN) = some false)
    (gaCN : PySem.W.findIn K (.ref CN) "__getattribute__" = some (some (.builtin "BaseException.__getattribute__")))
    (gtCN : PySem.W.findIn K (.ref CN) "__getattr__" = some none)
    (sCN_CM : PySem.W.subIn K (.ref CN) (.ref CM) = some true)
    (sCN_CK : PySem.W.subIn K (.ref CN) (.ref CK) = some false)
    (tyC : PySem.W.typeIn K (.ref C) = some (.type "type"))
    (ssC : PySem.W.subIn K (.ref C) (.ref C) = some true)
    (tyC2 : PySem.W.typeIn K (.ref C2) = some (.type "type"))
    (ssC2 : PySem.W.subIn K (.ref C2) (.ref C2) = some true)
    (q3 : PySem.W.subIn K (.ref C) (.ref C2) = some false)
    (q6 : PySem.W.subIn K (.ref C2) (.ref C) = some false)
    (a1 : PySem.W.findIn K (.ref C) "__init__" = some (some (.ref f1)))
    (i1 : PySem.W.isFn K (.ref f1) = true)
    (l1 : K.lookup f1 = some ⟨oc1, od1, .func (PySem.W.fnOf "__init__" "Same.__init__" (defArgs s_Same___init__) (defBody s_Same___init__) (defScope s_Same___init__) .none kV1 dc1 pm1 an1 cd1 ct1), sl1⟩)
    (c1 : PySem.W.codeIn K cd1 "Same.__init__" = true)
    (k1 : PySem.W.keepIn K (.ref f1) = true)
    (a2 : PySem.W.findIn K (.ref C) "shows" = some (some (.ref f2)))
    (i2 : PySem.W.isFn K (.ref f2) = true)
    (l2 : K.lookup f2 = some ⟨oc2, od2, .func (PySem.W.fnOf "shows" "Same.shows" (defArgs s_Same_shows) (defBody s_Same_shows) (defScope s_Same_shows) .none kV2 dc2 pm2 an2 cd2 ct2), sl2⟩)
    (c2 : PySem.W.codeIn K cd2 "Same.shows" = true)
    (k2 : PySem.W.keepIn K (.ref f2) = true)
    (a3 : PySem.W.findIn K (.ref C2) "shows" = some (some (.ref f3)))
    (i3 : PySem.W.isFn K (.ref f3) = true)
    (l3 : K.lookup f3 = some ⟨oc3, od3, .func (PySem.W.fnOf "shows" "Apart.shows" (defArgs s_Apart_shows) (defBody s_Apart_shows) (defScope s_Apart_shows) .none kV3 dc3 pm3 an3 cd3 ct3), sl3⟩)
    (c3 : PySem.W.codeIn K cd3 "Apart.shows" = true)
    (k3 : PySem.W.keepIn K (.ref f3) = true)
    (a4 : PySem.W.nsIn K mainGlobals "is_number" = some (some (.ref f4)))
    (l4 : K.lookup f4 = some ⟨oc4, od4, .func (PySem.W.fnOf "is_number" "is_number" (defArgs s_is_number) (defBody s_is_number) (defScope s_is_number) .none kV4 dc4 pm4 an4 cd4 ct4), sl4⟩)
    (c4 : PySem.W.codeIn K cd4 "is_number" = true)
    (k4 : PySem.W.keepIn K (.ref f4) = true)
    (a5 : PySem.W.nsIn K mainGlobals "is_count" = some (some (.ref f5)))
    (l5 : K.lookup f5 = some ⟨oc5, od5, .func (PySem.W.fnOf "is_count" "is_count" (defArgs s_is_count) (defBody s_is_count) (defScope s_is_count) .none kV5 dc5 pm5 an5 cd5 ct5), sl5⟩)
    (c5 : PySem.W.codeIn K cd5 "is_count" = true)
    (k5 : PySem.W.keepIn K (.ref f5) = true)
    (a6 : PySem.W.nsIn K mainGlobals "is_pair" = some (some (.ref f6)))
    (l6 : K.lookup f6 = some ⟨oc6, od6, .func (PySem.W.fnOf "is_pair" "is_pair" (defArgs s_is_pair) (defBody s_is_pair) (defScope s_is_pair) .none kV6 dc6 pm6 an6 cd6 ct6), sl6⟩)
    (c6 : PySem.W.codeIn K cd6 "is_pair" = true)
    (k6 : PySem.W.keepIn K (.ref f6) = true)
    (a7 : PySem.W.nsIn K mainGlobals "pair_sum" = some (some (.ref f7)))
    (l7 : K.lookup f7 = some ⟨oc7, od7, .func (PySem.W.fnOf "pair_sum" "pair_sum" (defArgs s_pair_sum) (defBody s_pair_sum) (defScope s_pair_sum) .none kV7 dc7 pm7 an7 cd7 ct7), sl7⟩)
    (c7 : PySem.W.codeIn K cd7 "pair_sum" = true)
    (k7 : PySem.W.keepIn K (.ref f7) = true)
    (a8 : PySem.W.nsIn K mainGlobals "all_sums" = some (some (.ref f8)))
    (l8 : K.lookup f8 = some ⟨oc8, od8, .func (PySem.W.fnOf "all_sums" "all_sums" (defArgs s_all_sums) (defBody s_all_sums) (defScope s_all_sums) .none kV8 dc8 pm8 an8 cd8 ct8), sl8⟩)
    (c8 : PySem.W.codeIn K cd8 "all_sums" = true)
    (k8 : PySem.W.keepIn K (.ref f8) = true)
    (a9 : PySem.W.nsIn K mainGlobals "rises" = some (some (.ref f9)))
    (l9 : K.lookup f9 = some ⟨oc9, od9, .func (PySem.W.fnOf "rises" "rises" (defArgs s_rises) (defBody s_rises) (defScope s_rises) .none kV9 dc9 pm9 an9 cd9 ct9), sl9⟩)
    (c9 : PySem.W.codeIn K cd9 "rises" = true)
    (k9 : PySem.W.keepIn K (.ref f9) = true)
    (a10 : PySem.W.nsIn K mainGlobals "check_marks" = some (some (.ref f10)))
    (l10 : K.lookup f10 = some ⟨oc10, od10, .func (PySem.W.fnOf "check_marks" "check_marks" (defArgs s_check_marks) (defBody s_check_marks) (defScope s_check_marks) .none kV10 dc10 pm10 an10 cd10 ct10), sl10⟩)
    (c10 : PySem.W.codeIn K cd10 "check_marks" = true)
    (k10 : PySem.W.keepIn K (.ref f10) = true)
    (a11 : PySem.W.nsIn K mainGlobals "all_pairs" = some (some (.ref f11)))
    (l11 : K.lookup f11 = some ⟨oc11, od11, .func (PySem.W.fnOf "all_pairs" "all_pairs" (defArgs s_all_pairs) (defBody s_all_pairs) (defScope s_all_pairs) .none kV11 dc11 pm11 an11 cd11 ct11), sl11⟩)
    (c11 : PySem.W.codeIn K cd11 "all_pairs" = true)
    (k11 : PySem.W.keepIn K (.ref f11) = true)
    (a12 : PySem.W.nsIn K mainGlobals "told" = some (some (.ref f12)))
    (l12 : K.lookup f12 = some ⟨oc12, od12, .func (PySem.W.fnOf "told" "told" (defArgs s_told) (defBody s_told) (defScope s_told) .none kV12 dc12 pm12 an12 cd12 ct12), sl12⟩)
    (c12 : PySem.W.codeIn K cd12 "told" = true)
    (k12 : PySem.W.keepIn K (.ref f12) = true)
    (a13 : PySem.W.nsIn K mainGlobals "behind" = some (some (.ref f13)))
    (l13 : K.lookup f13 = some ⟨oc13, od13, .func (PySem.W.fnOf "behind" "behind" (defArgs s_behind) (defBody s_behind) (defScope s_behind) .none kV13 dc13 pm13 an13 cd13 ct13), sl13⟩)
    (c13 : PySem.W.codeIn K cd13 "behind" = true)
    (k13 : PySem.W.keepIn K (.ref f13) = true)
    (a14 : PySem.W.nsIn K mainGlobals "is_prime" = some (some (.ref f14)))
    (l14 : K.lookup f14 = some ⟨oc14, od14, .func (PySem.W.fnOf "is_prime" "is_prime" (defArgs s_is_prime) (defBody s_is_prime) (defScope s_is_prime) .none kV14 dc14 pm14 an14 cd14 ct14), sl14⟩)
    (c14 : PySem.W.codeIn K cd14 "is_prime" = true)
    (k14 : PySem.W.keepIn K (.ref f14) = true)
    (a15 : PySem.W.nsIn K mainGlobals "power" = some (some (.ref f15)))
    (l15 : K.lookup f15 = some ⟨oc15, od15, .func (PySem.W.fnOf "power" "power" (defArgs s_power) (defBody s_power) (defScope s_power) .none kV15 dc15 pm15 an15 cd15 ct15), sl15⟩)
    (c15 : PySem.W.codeIn K cd15 "power" = true)
    (k15 : PySem.W.keepIn K (.ref f15) = true)
    (a16 : PySem.W.nsIn K mainGlobals "inverse" = some (some (.ref f16)))
    (l16 : K.lookup f16 = some ⟨oc16, od16, .func (PySem.W.fnOf "inverse" "inverse" (defArgs s_inverse) (defBody s_inverse) (defScope s_inverse) .none kV16 dc16 pm16 an16 cd16 ct16), sl16⟩)
    (c16 : PySem.W.codeIn K cd16 "inverse" = true)
    (k16 : PySem.W.keepIn K (.ref f16) = true)
    (a17 : PySem.W.nsIn K mainGlobals "no_square" = some (some (.ref f17)))
    (l17 : K.lookup f17 = some ⟨oc17, od17, .func (PySem.W.fnOf "no_square" "no_square" (defArgs s_no_square) (defBody s_no_square) (defScope s_no_square) .none kV17 dc17 pm17 an17 cd17 ct17), sl17⟩)
    (c17 : PySem.W.codeIn K cd17 "no_square" = true)
    (k17 : PySem.W.keepIn K (.ref f17) = true)
    (a18 : PySem.W.nsIn K mainGlobals "twos_in" = some (some (.ref f18)))
    (l18 : K.lookup f18 = some ⟨oc18, od18, .func (PySem.W.fnOf "twos_in" "twos_in" (defArgs s_twos_in) (defBody s_twos_in) (defScope s_twos_in) .none kV18 dc18 pm18 an18 cd18 ct18), sl18⟩)
    (c18 : PySem.W.codeIn K cd18 "twos_in" = true)
    (k18 : PySem.W.keepIn K (.ref f18) = true)
    (a19 : PySem.W.nsIn K mainGlobals "root" = some (some (.ref f19)))
    (l19 : K.lookup f19 = some ⟨oc19, od19, .func (PySem.W.fnOf "root" "root" (defArgs s_root) (defBody s_root) (defScope s_root) .none kV19 dc19 pm19 an19 cd19 ct19), sl19⟩)
    (c19 : PySem.W.codeIn K cd19 "root" = true)
    (k19 : PySem.W.keepIn K (.ref f19) = true)
    (a20 : PySem.W.nsIn K mainGlobals "check_prime" = some (some (.ref f20)))
    (l20 : K.lookup f20 = some ⟨oc20, od20, .func (PySem.W.fnOf "check_prime" "check_prime" (defArgs s_check_prime) (defBody s_check_prime) (defScope s_check_prime) .none kV20 dc20 pm20 an20 cd20 ct20), sl20⟩)
    (c20 : PySem.W.codeIn K cd20 "check_prime" = true)
    (k20 : PySem.W.keepIn K (.ref f20) = true)
    (a21 : PySem.W.nsIn K mainGlobals "check_number" = some (some (.ref f21)))
    (l21 : K.lookup f21 = some ⟨oc21, od21, .func (PySem.W.fnOf "check_number" "check_number" (defArgs s_check_number) (defBody s_check_number) (defScope s_check_number) .none kV21 dc21 pm21 an21 cd21 ct21), sl21⟩)
    (c21 : PySem.W.codeIn K cd21 "check_number" = true)
    (k21 : PySem.W.keepIn K (.ref f21) = true)
    (a22 : PySem.W.nsIn K mainGlobals "place" = some (some (.ref f22)))
    (l22 : K.lookup f22 = some ⟨oc22, od22, .func (PySem.W.fnOf "place" "place" (defArgs s_place) (defBody s_place) (defScope s_place) .none kV22 dc22 pm22 an22 cd22 ct22), sl22⟩)
    (c22 : PySem.W.codeIn K cd22 "place" = true)
    (k22 : PySem.W.keepIn K (.ref f22) = true)
    (a23 : PySem.W.nsIn K mainGlobals "mark" = some (some (.ref f23)))
    (l23 : K.lookup f23 = some ⟨oc23, od23, .func (PySem.W.fnOf "mark" "mark" (defArgs s_mark) (defBody s_mark) (defScope s_mark) .none kV23 dc23 pm23 an23 cd23 ct23), sl23⟩)
    (c23 : PySem.W.codeIn K cd23 "mark" = true)
    (k23 : PySem.W.keepIn K (.ref f23) = true)
    (a24 : PySem.W.nsIn K mainGlobals "number_of" = some (some (.ref f24)))
    (l24 : K.lookup f24 = some ⟨oc24, od24, .func (PySem.W.fnOf "number_of" "number_of" (defArgs s_number_of) (defBody s_number_of) (defScope s_number_of) .none kV24 dc24 pm24 an24 cd24 ct24), sl24⟩)
    (c24 : PySem.W.codeIn K cd24 "number_of" = true)
    (k24 : PySem.W.keepIn K (.ref f24) = true)
    (a25 : PySem.W.nsIn K mainGlobals "two_of" = some (some (.ref f25)))
    (l25 : K.lookup f25 = some ⟨oc25, od25, .func (PySem.W.fnOf "two_of" "two_of" (defArgs s_two_of) (defBody s_two_of) (defScope s_two_of) .none kV25 dc25 pm25 an25 cd25 ct25), sl25⟩)
    (c25 : PySem.W.codeIn K cd25 "two_of" = true)
    (k25 : PySem.W.keepIn K (.ref f25) = true)
    (a26 : PySem.W.nsIn K mainGlobals "apart_by" = some (some (.ref f26)))
    (l26 : K.lookup f26 = some ⟨oc26, od26, .func (PySem.W.fnOf "apart_by" "apart_by" (defArgs s_apart_by) (defBody s_apart_by) (defScope s_apart_by) .none kV26 dc26 pm26 an26 cd26 ct26), sl26⟩)
    (c26 : PySem.W.codeIn K cd26 "apart_by" = true)
    (k26 : PySem.W.keepIn K (.ref f26) = true)
    (a27 : PySem.W.nsIn K mainGlobals "_law_number" = some (some (.ref f27)))
    (l27 : K.lookup f27 = some ⟨oc27, od27, .func (PySem.W.fnOf "_law_number" "_law_number" (defArgs s_law_number) (defBody s_law_number) (defScope s_law_number) .none kV27 dc27 pm27 an27 cd27 ct27), sl27⟩)
    (c27 : PySem.W.codeIn K cd27 "_law_number" = true)
    (k27 : PySem.W.keepIn K (.ref f27) = true)
    (a28 : PySem.W.nsIn K mainGlobals "_law_plain" = some (some (.ref f28)))
    (l28 : K.lookup f28 = some ⟨oc28, od28, .func (PySem.W.fnOf "_law_plain" "_law_plain" (defArgs s_law_plain) (defBody s_law_plain) (defScope s_law_plain) .none kV28 dc28 pm28 an28 cd28 ct28), sl28⟩)
    (c28 : PySem.W.codeIn K cd28 "_law_plain" = true)
    (k28 : PySem.W.keepIn K (.ref f28) = true)
    (a29 : PySem.W.nsIn K mainGlobals "_law_truths" = some (some (.ref f29)))
    (l29 : K.lookup f29 = some ⟨oc29, od29, .func (PySem.W.fnOf "_law_truths" "_law_truths" (defArgs s_law_truths) (defBody s_law_truths) (defScope s_law_truths) .none kV29 dc29 pm29 an29 cd29 ct29), sl29⟩)
    (c29 : PySem.W.codeIn K cd29 "_law_truths" = true)
    (k29 : PySem.W.keepIn K (.ref f29) = true)
    (a30 : PySem.W.nsIn K mainGlobals "_law_no_of" = some (some (.ref f30)))
    (l30 : K.lookup f30 = some ⟨oc30, od30, .func (PySem.W.fnOf "_law_no_of" "_law_no_of" (defArgs s_law_no_of) (defBody s_law_no_of) (defScope s_law_no_of) .none kV30 dc30 pm30 an30 cd30 ct30), sl30⟩)
    (c30 : PySem.W.codeIn K cd30 "_law_no_of" = true)
    (k30 : PySem.W.keepIn K (.ref f30) = true)
    (a31 : PySem.W.nsIn K mainGlobals "_law_promises_right" = some (some (.ref f31)))
    (l31 : K.lookup f31 = some ⟨oc31, od31, .func (PySem.W.fnOf "_law_promises_right" "_law_promises_right" (defArgs s_law_promises_right) (defBody s_law_promises_right) (defScope s_law_promises_right) .none kV31 dc31 pm31 an31 cd31 ct31), sl31⟩)
    (c31 : PySem.W.codeIn K cd31 "_law_promises_right" = true)
    (k31 : PySem.W.keepIn K (.ref f31) = true)
    (a32 : PySem.W.nsIn K mainGlobals "law" = some (some (.ref f32)))
    (l32 : K.lookup f32 = some ⟨oc32, od32, .func (PySem.W.fnOf "law" "law" (defArgs s_law) (defBody s_law) (defScope s_law) .none kV32 dc32 pm32 an32 cd32 ct32), sl32⟩)
    (c32 : PySem.W.codeIn K cd32 "law" = true)
    (k32 : PySem.W.keepIn K (.ref f32) = true)
    (pgC : PySem.W.plainGet K C Str.empty = true)
    (hdC : PySem.W.hasDictIn K C = true)
    (poC : PySem.W.plainOver K C = true)
    (saC : PySem.W.findIn K (.ref C) "__setattr__" = some (some (.builtin "object.__setattr__")))
    (mkC : PySem.W.makesIn K C = true)
    (kcC : PySem.W.keepIn K (.ref C) = true)
    (nC_one : PySem.W.findIn K (.ref C) "one" = some none)
    (nC_other : PySem.W.findIn K (.ref C) "other" = some none)
    (pgC2 : PySem.W.plainGet K C2 Str.empty = true)
    (hdC2 : PySem.W.hasDictIn K C2 = true)
    (poC2 : PySem.W.plainOver K C2 = true)
    (saC2 : PySem.W.findIn K (.ref C2) "__setattr__" = some (some (.builtin "object.__setattr__")))
    (mkC2 : PySem.W.makesIn K C2 = true)
    (kcC2 : PySem.W.keepIn K (.ref C2) = true)
    (oiC2 : PySem.W.findIn K (.ref C2) "__init__" = some (some (.builtin "object.__init__")))
    (z_len : PySem.W.nsIn K mainGlobals "len" = some none)
    (z_set : PySem.W.nsIn K mainGlobals "set" = some none)
    (z_isinstance : PySem.W.nsIn K mainGlobals "isinstance" = some none)
    (z_bool : PySem.W.nsIn K mainGlobals "bool" = some none)
    (z_int : PySem.W.nsIn K mainGlobals "int" = some none)
    (z_tuple : PySem.W.nsIn K mainGlobals "tuple" = some none)
    (z_enumerate : PySem.W.nsIn K mainGlobals "enumerate" = some none)
    (z_sum : PySem.W.nsIn K mainGlobals "sum" = some none)
    (z_sorted : PySem.W.nsIn K mainGlobals "sorted" = some none)
    (z_range : PySem.W.nsIn K mainGlobals "range" = some none)
    (z_list : PySem.W.nsIn K mainGlobals "list" = some none)
    (z_str : PySem.W.nsIn K mainGlobals "str" = some none)
    (z_abs : PySem.W.nsIn K mainGlobals "abs" = some none)
    (z_all : PySem.W.nsIn K mainGlobals "all" = some none)
    (z_any : PySem.W.nsIn K mainGlobals "any" = some none)
    (z_zip : PySem.W.nsIn K mainGlobals "zip" = some none)
    (z_max : PySem.W.nsIn K mainGlobals "max" = some none)
    (z_min : PySem.W.nsIn K mainGlobals "min" = some none)
    (z_reversed : PySem.W.nsIn K mainGlobals "reversed" = some none)
    (eTc : cd31 = .ref cTc)
    (hTp : h.get? cTp = some { cls := .none, data := .fields #[] })
    (nTp : K.lookup cTp = none)
    (hTc : PySem.W.codeHdIn K cTc cTp = true) :
    LamX.LawAtS l w K CX0 8 63 "_law_script" mg fa h := by
  have e := hfa.symm.trans (PySem.W.mg_of X G a32)
  cases e
  have F1 := fun_mk (st := s_Same___init__) l1 c1 k1
  have b1 := F1.binds (ps := ["self", "one", "other"]) fun _ _ _ _ _ _ us hl => match us, hl with | [_, _, _], _ => rfl
  have F2 := fun_mk (st := s_Same_shows) l2 c2 k2
  have b2 := F2.binds (ps := ["self", "marks"]) fun _ _ _ _ _ _ us hl => match us, hl with | [_, _], _ => rfl
  have F3 := fun_mk (st := s_Apart_shows) l3 c3 k3
  have b3 := F3.binds (ps := ["self", "marks"]) fun _ _ _ _ _ _ us hl => match us, hl with | [_, _], _ => rfl
  have F4 := fun_mk (st := s_is_number) l4 c4 k4
  have b4 := F4.binds (ps := ["found"]) fun _ _ _ _ _ _ us hl => match us, hl with | [_], _ => rfl
  have D_is_number : Dfn K mg "is_number" "is_number" s_is_number ["found"] _ _ := ⟨F4, PySem.W.mg_of X G a4, b4⟩
  have F5 := fun_mk (st := s_is_count) l5 c5 k5
  have b5 := F5.binds (ps := ["found", "many"]) fun _ _ _ _ _ _ us hl => match us, hl with | [_, _], _ => rfl
  have D_is_count : Dfn K mg "is_count" "is_count" s_is_count ["found", "many"] _ _ := ⟨F5, PySem.W.mg_of X G a5, b5⟩
  have F6 := fun_mk (st := s_is_pair) l6 c6 k6
  have b6 := F6.binds (ps := ["found", "many"]) fun _ _ _ _ _ _ us hl => match us, hl with | [_, _], _ => rfl
  have D_is_pair : Dfn K mg "is_pair" "is_pair" s_is_pair ["found", "many"] _ _ := ⟨F6, PySem.W.mg_of X G a6, b6⟩
  have F7 := fun_mk (st := s_pair_sum) l7 c7 k7
  have b7 := F7.binds (ps := ["marks", "pair"]) fun _ _ _ _ _ _ us hl => match us, hl with | [_, _], _ => rfl
  have D_pair_sum : Dfn K mg "pair_sum" "pair_sum" s_pair_sum ["marks", "pair"] _ _ := ⟨F7, PySem.W.mg_of X G a7, b7⟩
  have F8 := fun_mk (st := s_all_sums) l8 c8 k8
  have b8 := F8.binds (ps := ["marks"]) fun _ _ _ _ _ _ us hl => match us, hl with | [_], _ => rfl
  have D_all_sums : Dfn K mg "all_sums" "all_sums" s_all_sums ["marks"] _ _ := ⟨F8, PySem.W.mg_of X G a8, b8⟩
  have F9 := fun_mk (st := s_rises) l9 c9 k9
  have b9 := F9.binds (ps := ["numbers"]) fun _ _ _ _ _ _ us hl => match us, hl with | [_], _ => rfl
  have D_rises : Dfn K mg "rises" "rises" s_rises ["numbers"] _ _ := ⟨F9, PySem.W.mg_of X G a9, b9⟩
  have F10 := fun_mk (st := s_check_marks) l10 c10 k10
  have b10 := F10.binds (ps := ["marks"]) fun _ _ _ _ _ _ us hl => match us, hl with | [_], _ => rfl
  have D_check_marks : Dfn K mg "check_marks" "check_marks" s_check_marks ["marks"] _ _ := ⟨F10, PySem.W.mg_of X G a10, b10⟩
  have F11 := fun_mk (st := s_all_pairs) l11 c11 k11
  have b11 := F11.binds (ps := ["many"]) fun _ _ _ _ _ _ us hl => match us, hl with | [_], _ => rfl
  have D_all_pairs : Dfn K mg "all_pairs" "all_pairs" s_all_pairs ["many"] _ _ := ⟨F11, PySem.W.mg_of X G a11, b11⟩
  have F12 := fun_mk (st := s_told) l12 c12 k12
  have b12 := F12.binds (ps := ["marks"]) fun _ _ _ _ _ _ us hl => match us, hl with | [_], _ => rfl
  have D_told : Dfn K mg "told" "told" s_told ["marks"] _ _ := ⟨F12, PySem.W.mg_of X G a12, b12⟩
  have F13 := fun_mk (st := s_behind) l13 c13 k13
  have b13 := F13.binds (ps := ["marks"]) fun _ _ _ _ _ _ us hl => match us, hl with | [_], _ => rfl
  have D_behind : Dfn K mg "behind" "behind" s_behind ["marks"] _ _ := ⟨F13, PySem.W.mg_of X G a13, b13⟩
  have F14 := fun_mk (st := s_is_prime) l14 c14 k14
  have b14 := F14.binds (ps := ["found"]) fun _ _ _ _ _ _ us hl => match us, hl with | [_], _ => rfl
  have D_is_prime : Dfn K mg "is_prime" "is_prime" s_is_prime ["found"] _ _ := ⟨F14, PySem.W.mg_of X G a14, b14⟩
  have F15 := fun_mk (st := s_power) l15 c15 k15
  have b15 := F15.binds (ps := ["base", "exponent", "prime"]) fun _ _ _ _ _ _ us hl => match us, hl with | [_, _, _], _ => rfl
  have D_power : Dfn K mg "power" "power" s_power ["base", "exponent", "prime"] _ _ := ⟨F15, PySem.W.mg_of X G a15, b15⟩
  have F16 := fun_mk (st := s_inverse) l16 c16 k16
  have b16 := F16.binds (ps := ["number", "prime"]) fun _ _ _ _ _ _ us hl => match us, hl with | [_, _], _ => rfl
  have D_inverse : Dfn K mg "inverse" "inverse" s_inverse ["number", "prime"] _ _ := ⟨F16, PySem.W.mg_of X G a16, b16⟩
  have F17 := fun_mk (st := s_no_square) l17 c17 k17
  have b17 := F17.binds (ps := ["prime"]) fun _ _ _ _ _ _ us hl => match us, hl with | [_], _ => rfl
  have D_no_square : Dfn K mg "no_square" "no_square" s_no_square ["prime"] _ _ := ⟨F17, PySem.W.mg_of X G a17, b17⟩
  have F18 := fun_mk (st := s_twos_in) l18 c18 k18
  have b18 := F18.binds (ps := ["number"]) fun _ _ _ _ _ _ us hl => match us, hl with | [_], _ => rfl
  have D_twos_in : Dfn K mg "twos_in" "twos_in" s_twos_in ["number"] _ _ := ⟨F18, PySem.W.mg_of X G a18, b18⟩
  have F19 := fun_mk (st := s_root) l19 c19 k19
  have b19 := F19.binds (ps := ["square", "prime"]) fun _ _ _ _ _ _ us hl => match us, hl with | [_, _], _ => rfl
  have D_root : Dfn K mg "root" "root" s_root ["square", "prime"] _ _ := ⟨F19, PySem.W.mg_of X G a19, b19⟩
  have F20 := fun_mk (st := s_check_prime) l20 c20 k20
  have b20 := F20.binds (ps := ["prime"]) fun _ _ _ _ _ _ us hl => match us, hl with | [_], _ => rfl
  have D_check_prime : Dfn K mg "check_prime" "check_prime" s_check_prime ["prime"] _ _ := ⟨F20, PySem.W.mg_of X G a20, b20⟩
  have F21 := fun_mk (st := s_check_number) l21 c21 k21
  have b21 := F21.binds (ps := ["number"]) fun _ _ _ _ _ _ us hl => match us, hl with | [_], _ => rfl
  have D_check_number : Dfn K mg "check_number" "check_number" s_check_number ["number"] _ _ := ⟨F21, PySem.W.mg_of X G a21, b21⟩
  have F22 := fun_mk (st := s_place) l22 c22 k22
  have b22 := F22.binds (ps := ["prime", "number"]) fun _ _ _ _ _ _ us hl => match us, hl with | [_, _], _ => rfl
  have D_place : Dfn K mg "place" "place" s_place ["prime", "number"] _ _ := ⟨F22, PySem.W.mg_of X G a22, b22⟩
  have F23 := fun_mk (st := s_mark) l23 c23 k23
  have b23 := F23.binds (ps := ["prime", "number"]) fun _ _ _ _ _ _ us hl => match us, hl with | [_, _], _ => rfl
  have D_mark : Dfn K mg "mark" "mark" s_mark ["prime", "number"] _ _ := ⟨F23, PySem.W.mg_of X G a23, b23⟩
  have F24 := fun_mk (st := s_number_of) l24 c24 k24
  have b24 := F24.binds (ps := ["prime", "found"]) fun _ _ _ _ _ _ us hl => match us, hl with | [_, _], _ => rfl
  have D_number_of : Dfn K mg "number_of" "number_of" s_number_of ["prime", "found"] _ _ := ⟨F24, PySem.W.mg_of X G a24, b24⟩
  have F25 := fun_mk (st := s_two_of) l25 c25 k25
  have b25 := F25.binds (ps := ["prime", "total"]) fun _ _ _ _ _ _ us hl => match us, hl with | [_, _], _ => rfl
  have D_two_of : Dfn K mg "two_of" "two_of" s_two_of ["prime", "total"] _ _ := ⟨F25, PySem.W.mg_of X G a25, b25⟩
  have F26 := fun_mk (st := s_apart_by) l26 c26 k26
  have b26 := F26.binds (ps := ["prime", "difference"]) fun _ _ _ _ _ _ us hl => match us, hl with | [_, _], _ => rfl
  have D_apart_by : Dfn K mg "apart_by" "apart_by" s_apart_by ["prime", "difference"] _ _ := ⟨F26, PySem.W.mg_of X G a26, b26⟩
  have F27 := fun_mk (st := s_law_number) l27 c27 k27
  have b27 := F27.binds (ps := ["_law_cell", "_law_at", "_law_whole"]) fun _ _ _ _ _ _ us hl => match us, hl with | [_, _, _], _ => rfl
  have D_law_number : Dfn K mg "_law_number" "_law_number" s_law_number ["_law_cell", "_law_at", "_law_whole"] _ _ := ⟨F27, PySem.W.mg_of X G a27, b27⟩
  have F28 := fun_mk (st := s_law_plain) l28 c28 k28
  have b28 := F28.binds (ps := ["_law_thing"]) fun _ _ _ _ _ _ us hl => match us, hl with | [_], _ => rfl
  have D_law_plain : Dfn K mg "_law_plain" "_law_plain" s_law_plain ["_law_thing"] _ _ := ⟨F28, PySem.W.mg_of X G a28, b28⟩
  have F29 := fun_mk (st := s_law_truths) l29 c29 k29
  have b29 := F29.binds (ps := ["_law_things"]) fun _ _ _ _ _ _ us hl => match us, hl with | [_], _ => rfl
  have D_law_truths : Dfn K mg "_law_truths" "_law_truths" s_law_truths ["_law_things"] _ _ := ⟨F29, PySem.W.mg_of X G a29, b29⟩
  have F30 := fun_mk (st := s_law_no_of) l30 c30 k30
  have b30 := F30.binds (ps := ["_law_ask"]) fun _ _ _ _ _ _ us hl => match us, hl with | [_], _ => rfl
  have D_law_no_of : Dfn K mg "_law_no_of" "_law_no_of" s_law_no_of ["_law_ask"] _ _ := ⟨F30, PySem.W.mg_of X G a30, b30⟩
  have F31 := fun_mk (st := s_law_promises_right) l31 c31 k31
  have b31 := F31.binds (ps := []) fun _ _ _ _ _ _ us hl => match us, hl with | [], _ => rfl
  have D_law_promises_right : Dfn K mg "_law_promises_right" "_law_promises_right" s_law_promises_right [] _ _ := ⟨F31, PySem.W.mg_of X G a31, b31⟩
  have F32 := fun_mk (st := s_law) l32 c32 k32
  have b32 := F32.binds (ps := ["_law_script"]) fun _ _ _ _ _ _ us hl => match us, hl with | [_], _ => rfl
  have D_law : Dfn K mg "law" "law" s_law ["_law_script"] _ _ := ⟨F32, PySem.W.mg_of X G a32, b32⟩
  have clC : Cls K C := ⟨pgC, hdC, poC, saC⟩
  have clC2 : Cls K C2 := ⟨pgC2, hdC2, poC2, saC2⟩
  have X_MarkError : XC K mg "MarkError" CM := ⟨xCM, PySem.W.mg_of X G aCM, kCM, bCM, tCM⟩
  have X_BadMarks : XC K mg "BadMarks" CB := ⟨xCB, PySem.W.mg_of X G aCB, kCB, bCB, tCB⟩
  have X_BadNumber : XC K mg "BadNumber" CU := ⟨xCU, PySem.W.mg_of X G aCU, kCU, bCU, tCU⟩
  have X_BadPrime : XC K mg "BadPrime" CP := ⟨xCP, PySem.W.mg_of X G aCP, kCP, bCP, tCP⟩
  have X_NoMark : XC K mg "NoMark" CK := ⟨xCK, PySem.W.mg_of X G aCK, kCK, bCK, tCK⟩
  have X_NotApart : XC K mg "NotApart" CN := ⟨xCN, PySem.W.mg_of X G aCN, kCN, bCN, tCN⟩
  have isC : IsC K C := ⟨jaC, jn, jt, jmC⟩
  have isC2 : IsC K C2 := ⟨jaC2, jn, jt, jmC2⟩
  have isCK : IsC K CK := ⟨jaCK, jn, jt, jmCK⟩
  have isCN : IsC K CN := ⟨jaCN, jn, jt, jmCN⟩
  have g_GREATEST_PRIME := PySem.W.mg_of X G cn_GREATEST_PRIME
  have g_MOST_MARKS := PySem.W.mg_of X G cn_MOST_MARKS
  have g_isqrt := PySem.W.mg_of X G fb_isqrt
  have T : Tx mg := ⟨PySem.W.mg_none_of X G z_len, PySem.W.mg_none_of X G z_set, PySem.W.mg_none_of X G z_isinstance, PySem.W.mg_none_of X G z_bool, PySem.W.mg_none_of X G z_int, PySem.W.mg_none_of X G z_tuple, PySem.W.mg_none_of X G z_enumerate, PySem.W.mg_none_of X G z_sum, PySem.W.mg_none_of X G z_sorted, PySem.W.mg_none_of X G z_range, PySem.W.mg_none_of X G z_list, PySem.W.mg_none_of X G z_str, PySem.W.mg_none_of X G z_abs, PySem.W.mg_none_of X G z_all, PySem.W.mg_none_of X G z_any, PySem.W.mg_none_of X G z_zip, PySem.W.mg_none_of X G z_max, PySem.W.mg_none_of X G z_min, PySem.W.mg_none_of X G z_reversed⟩
  have mT : ∀ {q : Addr × Addr → Prop}, q (cTc, cTp) → ∀ p ∈ [(cTc, cTp)], q p := fun hq p hp => by
    rw [List.mem_singleton.mp hp]
    exact hq
  exact ⟨PySem.W.fnOf "law" "law" (defArgs s_law) (defBody s_law) (defScope s_law) .none kV32 dc32 pm32 an32 cd32 ct32, [(cTc, cTp)], spLaw K cTp, mT hTp, mT nTp, mT (PySem.W.codeHd_of_K X hTc), fun s v => .of_eq rfl, fun H a ns hl hb hT hS => ⟨a, ns, rfl, hS, hl, hb, fun p hp => by
      rw [List.mem_singleton.mp hp]
      exact LamX.TabS.nil (hT (cTc, cTp) List.mem_cons_self), fun _ => rfl⟩, fun base _ _ TB => ok_law D_law T D_mark (ok_mark D_mark T X_BadPrime X_BadNumber D_check_prime D_is_count D_place D_is_prime g_GREATEST_PRIME g_isqrt D_is_number) D_number_of (ok_numberOf D_number_of T X_BadPrime X_BadNumber X_NoMark D_check_prime D_check_number D_is_count D_place D_is_prime g_GREATEST_PRIME g_isqrt D_is_number) D_two_of (ok_twoOf D_two_of T X_BadPrime X_BadNumber D_check_prime D_check_number D_root D_place D_is_prime g_GREATEST_PRIME g_isqrt D_is_number D_power D_no_square D_twos_in) D_apart_by (ok_aptBy D_apart_by T X_BadPrime X_BadNumber D_check_prime D_inverse D_place D_is_prime g_GREATEST_PRIME g_isqrt D_is_number D_power) D_told (ok_told D_told T ⟨clC, nC_one, nC_other⟩ ⟨mkC, a1, i1, kcC⟩ (PySem.W.mg_of X G aC) F1 b1 ⟨mkC2, oiC2, kcC2⟩ (PySem.W.mg_of X G aC2) D_pair_sum D_all_pairs D_check_marks X_BadMarks g_MOST_MARKS D_is_number D_rises) D_behind (ok_behind D_behind T ⟨mkC2, oiC2, kcC2⟩ (PySem.W.mg_of X G aC2) clC2 ⟨a3, i3, k3⟩ F3 b3 D_all_sums D_check_marks X_BadMarks X_NotApart g_MOST_MARKS D_is_number D_rises) D_law_promises_right (ok_prom D_law_promises_right eTc (TB (cTc, cTp) List.mem_cons_self) T D_mark (ok_mark D_mark T X_BadPrime X_BadNumber D_check_prime D_is_count D_place D_is_prime g_GREATEST_PRIME g_isqrt D_is_number) D_number_of (ok_numberOf D_number_of T X_BadPrime X_BadNumber X_NoMark D_check_prime D_check_number D_is_count D_place D_is_prime g_GREATEST_PRIME g_isqrt D_is_number) D_two_of (ok_twoOf D_two_of T X_BadPrime X_BadNumber D_check_prime D_check_number D_root D_place D_is_prime g_GREATEST_PRIME g_isqrt D_is_number D_power D_no_square D_twos_in) D_apart_by (ok_aptBy D_apart_by T X_BadPrime X_BadNumber D_check_prime D_inverse D_place D_is_prime g_GREATEST_PRIME g_isqrt D_is_number D_power) D_told (ok_told D_told T ⟨clC, nC_one, nC_other⟩ ⟨mkC, a1, i1, kcC⟩ (PySem.W.mg_of X G aC) F1 b1 ⟨mkC2, oiC2, kcC2⟩ (PySem.W.mg_of X G aC2) D_pair_sum D_all_pairs D_check_marks X_BadMarks g_MOST_MARKS D_is_number D_rises) D_behind (ok_behind D_behind T ⟨mkC2, oiC2, kcC2⟩ (PySem.W.mg_of X G aC2) clC2 ⟨a3, i3, k3⟩ F3 b3 D_all_sums D_check_marks X_BadMarks X_NotApart g_MOST_MARKS D_is_number D_rises) D_law_no_of ⟨clC, nC_one, nC_other⟩ ⟨mkC, a1, i1, kcC⟩ (PySem.W.mg_of X G aC) (ok_init F1 ⟨clC, nC_one, nC_other⟩) b1 ⟨mkC2, oiC2, kcC2⟩ (PySem.W.mg_of X G aC2) clC ⟨a2, i2, k2⟩ (ok_same F2 T ⟨clC, nC_one, nC_other⟩ D_is_pair D_pair_sum D_is_count D_is_number) b2 clC2 ⟨a3, i3, k3⟩ (ok_apart F3 T D_all_sums) b3 X_MarkError X_NoMark X_NotApart ⟨⟨gaCK, gtCK, bCK, hdCK, jaCK, jn, jt, jmCK⟩, PySem.W.exm_ref bCM hdCM tCM sCK_CM, kit_own hdCK tCK ssCK ssCK, kit_own hdCN tCN sCK_CN ssCN⟩ ⟨⟨gaCN, gtCN, bCN, hdCN, jaCN, jn, jt, jmCN⟩, PySem.W.exm_ref bCM hdCM tCM sCN_CM, kit_own hdCK tCK sCN_CK ssCK, kit_own hdCN tCN ssCN ssCN⟩ ⟨clC, clC2, isC, isC2, kit_own hdC2 tyC2 q3 ssC2, kit_own hdC2 tyC2 ssC2 ssC2, kit_own hdC tyC ssC ssC, kit_own hdC tyC q6 ssC⟩) ⟨clC, nC_one, nC_other⟩ ⟨mkC, a1, i1, kcC⟩ (PySem.W.mg_of X G aC) (ok_init F1 ⟨clC, nC_one, nC_other⟩) b1 ⟨mkC2, oiC2, kcC2⟩ (PySem.W.mg_of X G aC2) clC ⟨a2, i2, k2⟩ (ok_same F2 T ⟨clC, nC_one, nC_other⟩ D_is_pair D_pair_sum D_is_count D_is_number) b2 clC2 ⟨a3, i3, k3⟩ (ok_apart F3 T D_all_sums) b3 D_law_number D_law_plain D_law_truths ⟨clC, clC2, isC, isC2, kit_own hdC2 tyC2 q3 ssC2, kit_own hdC2 tyC2 ssC2 ssC2, kit_own hdC tyC ssC ssC, kit_own hdC tyC q6 ssC⟩⟩
end K7
open PySem PySem.W PyProof.Rows
set_option maxRecDepth 100000 in
set_option maxHeartbeats 0 in
theorem PySem.Challenge.cw_sumsapart_k07_whole_numbers_holds : PySem.Challenge.rw_sumsapart_k07_whole_numbers.Holds := by
  w_on; o_law; k_head; (case hw => w_witness2)
  k_fill
  refine LamX.walk_ofTs (l := PySem.Challenge.rw_sumsapart_k07_whole_numbers) (n := 63) (k := 8) (x := "_law_script") (CX := fun _ => L2.CX0) rfl (by decide) rfl ⟨rfl, by decide, by decide⟩ (fun w h Y => PySem.W.km_in_of Y) ?F (fun _ _ _ _ _ h => h)
  case F =>
    intro w mg fa h Y KX G hmg
    refine' K7.all_mk KX G hmg ?aC ?aC2 ?aCM ?aCB ?aCU ?aCP ?aCK ?aCN ?cn_GREATEST_PRIME ?cn_MOST_MARKS ?fb_isqrt ?xCM ?kCM ?bCM ?tCM ?xCB ?kCB ?bCB ?tCB ?xCU ?kCU ?bCU ?tCU ?xCP ?kCP ?bCP ?tCP ?xCK ?kCK ?bCK ?tCK ?xCN ?kCN ?bCN ?tCN ?jaC ?jmC ?jaC2 ?jmC2 ?jaCK ?jmCK ?jaCN ?jmCN ?jn ?jt ?hdCM ?ssCM ?hdCB ?ssCB ?hdCU ?ssCU ?hdCP ?ssCP ?hdCK ?ssCK ?hdCN ?ssCN ?gaCK ?gtCK ?sCK_CM ?sCK_CN ?gaCN ?gtCN ?sCN_CM ?sCN_CK ?tyC ?ssC ?tyC2 ?ssC2 ?q3 ?q6 ?a1 ?i1 ?l1 ?c1 ?k1 ?a2 ?i2 ?l2 ?c2 ?k2 ?a3 ?i3 ?l3 ?c3 ?k3 ?a4 ?l4 ?c4 ?k4 ?a5 ?l5 ?c5 ?k5 ?a6 ?l6 ?c6 ?k6 ?a7 ?l7 ?c7 ?k7 ?a8 ?l8 ?c8 ?k8 ?a9 ?l9 ?c9 ?k9 ?a10 ?l10 ?c10 ?k10 ?a11 ?l11 ?c11 ?k11 ?a12 ?l12 ?c12 ?k12 ?a13 ?l13 ?c13 ?k13 ?a14 ?l14 ?c14 ?k14 ?a15 ?l15 ?c15 ?k15 ?a16 ?l16 ?c16 ?k16 ?a17 ?l17 ?c17 ?k17 ?a18 ?l18 ?c18 ?k18 ?a19 ?l19 ?c19 ?k19 ?a20 ?l20 ?c20 ?k20 ?a21 ?l21 ?c21 ?k21 ?a22 ?l22 ?c22 ?k22 ?a23 ?l23 ?c23 ?k23 ?a24 ?l24 ?c24 ?k24 ?a25 ?l25 ?c25 ?k25 ?a26 ?l26 ?c26 ?k26 ?a27 ?l27 ?c27 ?k27 ?a28 ?l28 ?c28 ?k28 ?a29 ?l29 ?c29 ?k29 ?a30 ?l30 ?c30 ?k30 ?a31 ?l31 ?c31 ?k31 ?a32 ?l32 ?c32 ?k32 ?pgC ?hdC ?poC ?saC ?mkC ?kcC ?nC_one ?nC_other ?pgC2 ?hdC2 ?poC2 ?saC2 ?mkC2 ?kcC2 ?oiC2 ?z_len ?z_set ?z_isinstance ?z_bool ?z_int ?z_tuple ?z_enumerate ?z_sum ?z_sorted ?z_range ?z_list ?z_str ?z_abs ?z_all ?z_any ?z_zip ?z_max ?z_min ?z_reversed ?eTc ?hTp ?nTp ?hTc
    (case aC => k_is); (case aC2 => k_is); (case aCM => k_is); (case aCB => k_is); (case aCU => k_is); (case aCP => k_is); (case aCK => k_is); (case aCN => k_is); (case cn_GREATEST_PRIME => k_is); (case cn_MOST_MARKS => k_is); (case fb_isqrt => k_is); (case xCM => k_exc); (case kCM => k_is); (case bCM => k_is); (case tCM => k_is); (case xCB => k_exc); (case kCB => k_is); (case bCB => k_is); (case tCB => k_is); (case xCU => k_exc); (case kCU => k_is); (case bCU => k_is); (case tCU => k_is); (case xCP => k_exc); (case kCP => k_is); (case bCP => k_is); (case tCP => k_is); (case xCK => k_exc); (case kCK => k_is); (case bCK => k_is); (case tCK => k_is); (case xCN => k_exc); (case kCN => k_is); (case bCN => k_is); (case tCN => k_is); (case jaC => k_is); (case jmC => k_is); (case jaC2 => k_is); (case jmC2 => k_is); (case jaCK => k_is); (case jmCK => k_is); (case jaCN => k_is); (case jmCN => k_is); (case jn => k_is); (case jt => k_is); (case hdCM => k_is); (case ssCM => k_is); (case hdCB => k_is); (case ssCB => k_is); (case hdCU => k_is); (case ssCU => k_is); (case hdCP => k_is); (case ssCP => k_is); (case hdCK => k_is); (case ssCK => k_is); (case hdCN => k_is); (case ssCN => k_is); (case gaCK => k_is); (case gtCK => k_is); (case sCK_CM => k_is); (case sCK_CN => k_is); (case gaCN => k_is); (case gtCN => k_is); (case sCN_CM => k_is); (case sCN_CK => k_is); (case tyC => k_is); (case ssC => k_is); (case tyC2 => k_is); (case ssC2 => k_is); (case q3 => k_is); (case q6 => k_is); (case a1 => k_is); (case i1 => k_is); (case l1 => k_is); (case c1 => k_is); (case k1 => k_is); (case a2 => k_is); (case i2 => k_is); (case l2 => k_is); (case c2 => k_is); (case k2 => k_is); (case a3 => k_is); (case i3 => k_is); (case l3 => k_is); (case c3 => k_is); (case k3 => k_is); (case a4 => k_is); (case l4 => k_is); (case c4 => k_is); (case k4 => k_is); (case a5 => k_is); (case l5 => k_is); (case c5 => k_is); (case k5 => k_is); (case a6 => k_is); (case l6 => k_is); (case c6 => k_is); (case k6 => k_is); (case a7 => k_is); (case l7 => k_is); (case c7 => k_is); (case k7 => k_is); (case a8 => k_is); (case l8 => k_is); (case c8 => k_is); (case k8 => k_is); (case a9 => k_is); (case l9 => k_is); (case c9 => k_is); (case k9 => k_is); (case a10 => k_is); (case l10 => k_is); (case c10 => k_is); (case k10 => k_is); (case a11 => k_is); (case l11 => k_is); (case c11 => k_is); (case k11 => k_is); (case a12 => k_is); (case l12 => k_is); (case c12 => k_is); (case k12 => k_is); (case a13 => k_is); (case l13 => k_is); (case c13 => k_is); (case k13 => k_is); (case a14 => k_is); (case l14 => k_is); (case c14 => k_is); (case k14 => k_is); (case a15 => k_is); (case l15 => k_is); (case c15 => k_is); (case k15 => k_is); (case a16 => k_is); (case l16 => k_is); (case c16 => k_is); (case k16 => k_is); (case a17 => k_is); (case l17 => k_is); (case c17 => k_is); (case k17 => k_is); (case a18 => k_is); (case l18 => k_is); (case c18 => k_is); (case k18 => k_is); (case a19 => k_is); (case l19 => k_is); (case c19 => k_is); (case k19 => k_is); (case a20 => k_is); (case l20 => k_is); (case c20 => k_is); (case k20 => k_is); (case a21 => k_is); (case l21 => k_is); (case c21 => k_is); (case k21 => k_is); (case a22 => k_is); (case l22 => k_is); (case c22 => k_is); (case k22 => k_is); (case a23 => k_is); (case l23 => k_is); (case c23 => k_is); (case k23 => k_is); (case a24 => k_is); (case l24 => k_is); (case c24 => k_is); (case k24 => k_is); (case a25 => k_is); (case l25 => k_is); (case c25 => k_is); (case k25 => k_is); (case a26 => k_is); (case l26 => k_is); (case c26 => k_is); (case k26 => k_is); (case a27 => k_is); (case l27 => k_is); (case c27 => k_is); (case k27 => k_is); (case a28 => k_is); (case l28 => k_is); (case c28 => k_is); (case k28 => k_is); (case a29 => k_is); (case l29 => k_is); (case c29 => k_is); (case k29 => k_is); (case a30 => k_is); (case l30 => k_is); (case c30 => k_is); (case k30 => k_is); (case a31 => k_is); (case l31 => k_is); (case c31 => k_is); (case k31 => k_is); (case a32 => k_is); (case l32 => k_is); (case c32 => k_is); (case k32 => k_is); (case pgC => k_is); (case hdC => k_is); (case poC => k_is); (case saC => k_is); (case mkC => k_is); (case kcC => k_is); (case nC_one => k_is); (case nC_other => k_is); (case pgC2 => k_is); (case hdC2 => k_is); (case poC2 => k_is); (case saC2 => k_is); (case mkC2 => k_is); (case kcC2 => k_is); (case oiC2 => k_is); (case z_len => k_is); (case z_set => k_is); (case z_isinstance => k_is); (case z_bool => k_is); (case z_int => k_is); (case z_tuple => k_is); (case z_enumerate => k_is); (case z_sum => k_is); (case z_sorted => k_is); (case z_range => k_is); (case z_list => k_is); (case z_str => k_is); (case z_abs => k_is); (case z_all => k_is); (case z_any => k_is); (case z_zip => k_is); (case z_max => k_is); (case z_min => k_is); (case z_reversed => k_is); (case eTc => exact rfl); (case hTp => exact PySem.W.km_tabs_of Y _ List.mem_cons_self); (case nTp => kernel_rfl); (case hTc => kernel_rfl)
