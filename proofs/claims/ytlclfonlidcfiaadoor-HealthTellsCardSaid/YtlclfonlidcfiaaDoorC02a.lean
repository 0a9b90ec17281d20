/- math/bits.Div64: what it answers, of a high word below the divisor. -/
import Derived.Test.YtlclfonlidcfiaaDoorC01b
import Derived.Test.YtlclfonlidcfiaaDoorC01c
import Derived.Test.YtlclfonlidcfiaaDoorMA
import Derived.Deep.QuietTactic
import Derived.BigQuiet
import Derived.Deep.CutBlock
import Derived.Deep.DeepCutAuto
import Derived.Laws.BitsAllLaws
import Derived.Lib.ItoaNum
namespace Go.Proofs.YtlclfonlidcfiaaDoor
open Go.RowKit Go.Lib
set_option maxRecDepth 100000

theorem wrap_nat {n : Nat} (h : n < 18446744073709551616) : IntKind.u64.wrap (n : Int) = n := IntWalk.u64_in _ ⟨by omega, by omega⟩
theorem and_low {n : Nat} (h : n < 18446744073709551616) : bits .and .u64 (n : Int) 4294967295 = ((n % 4294967296 : Nat) : Int) := by
  have e := u64_and_nat n 4294967295 h (by omega)
  have e2 : n &&& 4294967295 = n % 4294967296 := Nat.and_two_pow_sub_one_eq_mod n 32
  rw [e2] at e
  exact e
theorem bitLen_bounds {y : Nat} (h0 : 0 < y) (h : y < 18446744073709551616) : 1 ≤ Lib.bitLen y ∧ 2 ^ (Lib.bitLen y - 1) ≤ y ∧ y < 2 ^ Lib.bitLen y ∧ Lib.bitLen y ≤ 64 := by
  obtain ⟨a, b, c⟩ := Lib.bitLenAux_bounds 64 y h (by omega)
  exact ⟨a, b, c, Lib.bitLen_le y 64 (by omega) h⟩
/-- The words that Div64 reckons first. -/
structure Words (hi lo y s Y n1 n0 H u L d1 d0 : Nat) : Prop where
  sh : (64 : Int) - (Lib.bitLen y : Int) = s
  sl : s < 64
  eY : IntKind.u64.wrap ((y : Int) * 2 ^ s) = Y
  e1 : (Y : Int) / 4294967296 = n1
  e0 : bits .and .u64 (Y : Int) 4294967295 = n0
  eH : IntKind.u64.wrap ((hi : Int) * 2 ^ s) = H
  eu : bits .or .u64 (H : Int) ((lo : Int) / 2 ^ (64 - s)) = u
  eL : IntKind.u64.wrap ((lo : Int) * 2 ^ s) = L
  ed1 : (L : Int) / 4294967296 = d1
  ed0 : bits .and .u64 (L : Int) 4294967295 = d0
  Yn : Y = n1 * 4294967296 + n0
  Ys : Y = y * 2 ^ s
  Yl : Y < 18446744073709551616
  b1 : 2147483648 ≤ n1
  b1' : n1 < 4294967296
  b0 : n0 < 4294967296
  uY : u < Y
  bd1 : d1 < 4294967296
  bd0 : d0 < 4294967296
  sum : (hi * 18446744073709551616 + lo) * 2 ^ s = (u * 4294967296 + d1) * 4294967296 + d0
theorem words {hi lo y : Nat} (hhi : hi < y) (hlo : lo < 18446744073709551616) (hy : y < 18446744073709551616) : ∃ s Y n1 n0 H u L d1 d0 : Nat, Words hi lo y s Y n1 n0 H u L d1 d0 := by
  obtain ⟨g1, g2, g3, g4⟩ := bitLen_bounds (show 0 < y by omega) hy
  obtain ⟨k, hk⟩ : ∃ k, k = Lib.bitLen y := ⟨_, rfl⟩
  rw [← hk] at g1 g2 g3 g4
  obtain ⟨s, hs⟩ : ∃ s, k + s = 64 := ⟨64 - k, by omega⟩
  have hp : 0 < 2 ^ s := Nat.two_pow_pos s
  have hq : 0 < 2 ^ k := Nat.two_pow_pos k
  have hpq : 2 ^ k * 2 ^ s = 18446744073709551616 := by rw [← Nat.pow_add, hs]
  have hlow : 9223372036854775808 ≤ y * 2 ^ s := by
    have h1 : 2 ^ (k - 1) * 2 ^ s ≤ y * 2 ^ s := Nat.mul_le_mul_right _ g2
    have h2 : 2 ^ (k - 1) * 2 ^ s = 9223372036854775808 := by rw [← Nat.pow_add, show k - 1 + s = 63 by omega]
    omega
  have hhigh : y * 2 ^ s < 18446744073709551616 := by rw [← hpq]; exact Nat.mul_lt_mul_of_pos_right g3 hp
  have hH : hi * 2 ^ s + 2 ^ s ≤ y * 2 ^ s := by
    have := Nat.mul_le_mul_right (2 ^ s) (show hi + 1 ≤ y from hhi)
    rwa [Nat.add_mul, Nat.one_mul] at this
  obtain ⟨a, ha⟩ : ∃ a, a = lo / 2 ^ k := ⟨_, rfl⟩
  obtain ⟨b, hb⟩ : ∃ b, b = lo % 2 ^ k := ⟨_, rfl⟩
  have hlab : lo = a * 2 ^ k + b := by rw [ha, hb, Nat.mul_comm]; exact (Nat.div_add_mod _ _).symm
  have hbl : b < 2 ^ k := by rw [hb]; exact Nat.mod_lt _ hq
  have hal : a < 2 ^ s := by
    rw [ha, Nat.div_lt_iff_lt_mul hq, Nat.mul_comm, hpq]; exact hlo
  have hbs : b * 2 ^ s < 18446744073709551616 := by rw [← hpq]; exact Nat.mul_lt_mul_of_pos_right hbl hp
  have hlos : lo * 2 ^ s = a * 18446744073709551616 + b * 2 ^ s := by rw [hlab, Nat.add_mul, Nat.mul_assoc, hpq]
  have hor : hi * 2 ^ s ||| a = hi * 2 ^ s + a := by
    rw [Nat.mul_comm]; exact (Nat.two_pow_add_eq_or_of_lt hal hi).symm
  refine ⟨s, y * 2 ^ s, y * 2 ^ s / 4294967296, y * 2 ^ s % 4294967296, hi * 2 ^ s, hi * 2 ^ s + a, b * 2 ^ s, b * 2 ^ s / 4294967296, b * 2 ^ s % 4294967296, ?_⟩
  have cast : ∀ n : Nat, (n : Int) * 2 ^ s = ((n * 2 ^ s : Nat) : Int) := fun n => by simp
  constructor
  case sh => rw [← hk]; omega
  case sl => omega
  case eY => rw [cast]; exact wrap_nat hhigh
  case e1 => omega
  case e0 => exact and_low hhigh
  case eH => rw [cast]; exact wrap_nat (by omega)
  case eu =>
    have e : (lo : Int) / 2 ^ (64 - s) = ((a : Nat) : Int) := by
      rw [ha, show 64 - s = k by omega]; simp
    rw [e, u64_or_nat _ _ (by omega) (by omega), hor]
  case eL =>
    rw [cast, hlos, IntKind.wrap_u64]
    omega
  case ed1 => omega
  case ed0 => exact and_low hbs
  case Yn => omega
  case Ys => rfl
  case Yl => exact hhigh
  case b1 => omega
  case b1' => omega
  case b0 => omega
  case uY => omega
  case bd1 => omega
  case bd0 => omega
  case sum =>
    have e : (hi * 18446744073709551616 + lo) * 2 ^ s = hi * 2 ^ s * 18446744073709551616 + lo * 2 ^ s := by rw [Nat.add_mul, Nat.mul_right_comm]
    rw [e, hlos]
    omega
set_option maxHeartbeats 1000000 in
theorem div64_small (lo y : Nat) (hlo : lo < 18446744073709551616) (hy0 : 0 < y) (hy : y < 18446744073709551616) (w : World) :
    Calls Tryd.prog 95 #[.int .u64 (0 : Nat), .int .u64 lo, .int .u64 y] w fun e w' => e = .returned (.tuple #[.int .u64 ((lo / y : Nat) : Int), .int .u64 ((lo % y : Nat) : Int)]) ∧ ∃ n, w' = w.drewN n := by
  have h0 : ((y : Int) == 0) = false := by rw [beq_eq_false_iff_ne]; omega
  have hq : IntKind.u64.wrap ((lo : Int) / (y : Int)) = ((lo / y : Nat) : Int) := by rw [← Int.natCast_ediv]; exact wrap_nat (Nat.lt_of_le_of_lt (Nat.div_le_self _ _) hlo)
  have hr : (lo : Int) % (y : Int) = ((lo % y : Nat) : Int) := by rw [← Int.natCast_emod]
  go_enter Tryd.func95, Tryd.ntmps95
  go_wp2
  go_quiet (fail)
  go_wp2
  go_ret2
  exact ⟨rfl, _, rfl⟩
theorem leadingZeros (y s : Nat) (hy : y < 18446744073709551616) (h : (64 : Int) - (Lib.bitLen y : Int) = s) (w : World) :
    Calls Tryd.prog 96 #[.int .u64 (y : Int)] w fun e w' => e = .returned (.int .i64 (s : Int)) ∧ w = w' := by
  have c := Tryd.bits_LeadingZeros64 (y : Int) w (by omega) (by omega)
  rw [Int.toNat_natCast, h] at c
  exact c.mono fun e w' g => ⟨g.1, g.2.symm⟩
theorem mul_small {a b : Nat} (ha : a < 4294967296) (hb : b < 4294967296) : a * b < 18446744073709551616 := by
  have h1 : a * b ≤ 4294967295 * b := Nat.mul_le_mul_right _ (by omega)
  omega
theorem u64_pred {t : Nat} (h : 1 ≤ t) : Value.int .u64 ((t : Int) - 1) = .int .u64 ((t - 1 : Nat) : Int) := by rw [Int.natCast_sub h]; rfl
set_option maxHeartbeats 4000000 in
theorem div64_big (hi lo y : Nat) (hhi : hi < y) (hhi0 : 0 < hi) (hlo : lo < 18446744073709551616) (hy : y < 18446744073709551616) (w : World) :
    Calls Tryd.prog 95 #[.int .u64 hi, .int .u64 lo, .int .u64 y] w fun e w' => e = .returned (.tuple #[.int .u64 (((hi * 18446744073709551616 + lo) / y : Nat) : Int), .int .u64 (((hi * 18446744073709551616 + lo) % y : Nat) : Int)]) ∧ ∃ n, w' = w.drewN n := by
  have h0 : ((y : Int) == 0) = false := by rw [beq_eq_false_iff_ne]; omega
  have h1 : ((hi : Int) == 0) = false := by rw [beq_eq_false_iff_ne]; omega
  obtain ⟨s, Y, n1, n0, H, u, L, d1, d0, hW⟩ := words hhi hlo hy
  obtain ⟨hs, hsl, eY, e1, e0, eH, eu, eL, ed1, ed0, Yn, Ys, Yl, b1, b1', b0, uY, bd1, bd0, sum⟩ := hW
  have hY0 : 0 < Y := by omega
  have hn1 : ¬ (n1 = 0) := by omega
  have uYn : u < n1 * 4294967296 + n0 := by omega
  have HS := Lib.hid hs
  -- the first digit
  have st1 := Wide.dig_start b1 b1' b0 bd1 uYn
  obtain ⟨t1, ht1⟩ : ∃ t1, u / n1 = t1 := ⟨_, rfl⟩
  obtain ⟨r1, hr1⟩ : ∃ r1, u % n1 = r1 := ⟨_, rfl⟩
  obtain ⟨p1, hp1⟩ : ∃ p1, t1 * n1 = p1 := ⟨_, rfl⟩
  rw [ht1, hr1] at st1
  have hpr1 : p1 + r1 = u := by rw [← hp1]; exact st1.sum
  have et1 : (u : Int) / (n1 : Int) = (t1 : Int) := by rw [← ht1, Int.natCast_ediv]
  have ep1 : IntKind.u64.wrap ((t1 : Int) * (n1 : Int)) = (p1 : Int) := by rw [← Int.natCast_mul, hp1]; exact wrap_nat (by omega)
  have er1 : (u : Int) - (p1 : Int) = (r1 : Int) := by omega
  obtain ⟨q1, hq1⟩ : ∃ q1, q1 = (u * 4294967296 + d1) / Y := ⟨_, rfl⟩
  have bq1 : q1 < 4294967296 := by rw [hq1]; exact Wide.digit_lt uY bd1
  -- what it leaves
  obtain ⟨u2, hu2⟩ : ∃ u2, (u * 4294967296 + d1) % Y = u2 := ⟨_, rfl⟩
  have lw1 := Wide.left_word (u := u) (d := d1) (y := Y) (q := q1) (by omega) hY0 hq1
  rw [hu2] at lw1
  have u2Y : u2 < Y := by rw [← hu2]; exact Nat.mod_lt _ hY0
  have u2Yn : u2 < n1 * 4294967296 + n0 := by omega
  obtain ⟨U, eU⟩ : ∃ U, IntKind.u64.wrap ((u : Int) * 4294967296) = U := ⟨_, rfl⟩
  obtain ⟨V, eV⟩ : ∃ V, IntKind.u64.wrap (U + (d1 : Int)) = V := ⟨_, rfl⟩
  obtain ⟨P, eP⟩ : ∃ P, IntKind.u64.wrap ((q1 : Int) * (Y : Int)) = P := ⟨_, rfl⟩
  have eVP : IntKind.u64.wrap (V - P) = (u2 : Int) := by
    rw [← eV, ← eU, ← eP]; simp only [IntKind.wrap_u64]; exact lw1
  -- the second digit
  have st2 := Wide.dig_start b1 b1' b0 bd0 u2Yn
  obtain ⟨t2, ht2⟩ : ∃ t2, u2 / n1 = t2 := ⟨_, rfl⟩
  obtain ⟨r2, hr2⟩ : ∃ r2, u2 % n1 = r2 := ⟨_, rfl⟩
  obtain ⟨p2, hp2⟩ : ∃ p2, t2 * n1 = p2 := ⟨_, rfl⟩
  rw [ht2, hr2] at st2
  have hpr2 : p2 + r2 = u2 := by rw [← hp2]; exact st2.sum
  have et2 : (u2 : Int) / (n1 : Int) = (t2 : Int) := by rw [← ht2, Int.natCast_ediv]
  have ep2 : IntKind.u64.wrap ((t2 : Int) * (n1 : Int)) = (p2 : Int) := by rw [← Int.natCast_mul, hp2]; exact wrap_nat (by omega)
  have er2 : (u2 : Int) - (p2 : Int) = (r2 : Int) := by omega
  obtain ⟨q0, hq0⟩ : ∃ q0, q0 = (u2 * 4294967296 + d0) / Y := ⟨_, rfl⟩
  have bq0 : q0 < 4294967296 := by rw [hq0]; exact Wide.digit_lt u2Y bd0
  obtain ⟨u3, hu3⟩ : ∃ u3, (u2 * 4294967296 + d0) % Y = u3 := ⟨_, rfl⟩
  have lw2 := Wide.left_word (u := u2) (d := d0) (y := Y) (q := q0) (by omega) hY0 hq0
  rw [hu3] at lw2
  have u3Y : u3 < Y := by rw [← hu3]; exact Nat.mod_lt _ hY0
  obtain ⟨U', eU'⟩ : ∃ U, IntKind.u64.wrap ((u2 : Int) * 4294967296) = U := ⟨_, rfl⟩
  obtain ⟨V', eV'⟩ : ∃ V, IntKind.u64.wrap (U' + (d0 : Int)) = V := ⟨_, rfl⟩
  obtain ⟨P', eP'⟩ : ∃ P, IntKind.u64.wrap ((q0 : Int) * (Y : Int)) = P := ⟨_, rfl⟩
  have eVP' : IntKind.u64.wrap (V' - P') = (u3 : Int) := by
    rw [← eV', ← eU', ← eP']; simp only [IntKind.wrap_u64]; exact lw2
  -- both
  obtain ⟨z1, z2⟩ := Wide.two_digits (N := hi * 18446744073709551616 + lo) (y := y) (s := s) (q1 := q1) (q0 := q0) (r1 := u2) (r0 := u3) sum (by omega)
    (by rw [← Ys, ← hu2, hq1]; exact (Nat.div_add_mod' _ _).symm) (by rw [← Ys, ← hu3, hq0]; exact (Nat.div_add_mod' _ _).symm) (by rw [← Ys]; exact u3Y)
  rw [← z1, ← z2]
  have Q1 : Hid (q1 = (u * 4294967296 + d1) / (n1 * 4294967296 + n0)) := by exact (by rw [hq1, Yn] : q1 = (u * 4294967296 + d1) / (n1 * 4294967296 + n0))
  have Q0 : Hid (q0 = (u2 * 4294967296 + d0) / (n1 * 4294967296 + n0)) := by exact (by rw [hq0, Yn] : q0 = (u2 * 4294967296 + d0) / (n1 * 4294967296 + n0))
  have Ez := Lib.hid (show (u3 : Int) / 2 ^ s = ((u3 / 2 ^ s : Nat) : Int) by simp)
  have bt1 := st1.le
  have bt2 := st2.le
  clear hs Yn Ys sum ht1 hr1 hp1 hpr1 ht2 hr2 hp2 hpr2 hq1 hq0 hu2 hu3 lw1 lw2 z1 z2
  have B1 := Lib.hid b1
  have B1' := Lib.hid b1'
  have B0 := Lib.hid b0
  have BD1 := Lib.hid bd1
  have BD0 := Lib.hid bd0
  have UY := Lib.hid uYn
  have UY2 := Lib.hid u2Yn
  go_enter Tryd.func95, Tryd.ntmps95
  go_upto_block 0 with (first | (go_at_call 96; refine (leadingZeros y s hy HS.out _).mono ?_; rintro e w' ⟨rfl, rfl⟩))
  go_cut [15] (fun s15 wx => w = wx ∧ s15 = .int .u64 (q1 : Int))
  case first =>
    go_wp2_with fail
    go_loop [15, 16] (fun a b => ∃ t r : Nat, a = .int .u64 t ∧ b = .int .u64 r ∧ Wide.Dig n1 n0 u d1 t r) (fun a _ => (RowKit.intOf a).toNat)
    case atStart => exact ⟨t1, r1, rfl, rfl, st1⟩
    case round =>
      obtain ⟨t, r, rfl, rfl, hD⟩ := hrel
      have bt : (t : Int) ≤ 4294967297 := by have := hD.le; omega
      have br : (r : Int) < 4294967296 := by have := hD.left; omega
      have bn : (n1 : Int) < 4294967296 := by have := B1'.out; omega
      have bdd : (d1 : Int) < 4294967296 := by have := BD1.out; omega
      have HD := Lib.hid hD
      clear hD b1 b1' b0 bd1 bd0 bq1 bq0 u2Yn uYn Yl hlo hy hhi hhi0 bt1 bt2 uY u2Y u3Y hY0 st1 st2
      by_cases hb : (4294967296 : Int) ≤ (t : Int)
      · obtain ⟨g1, g2, g3, g4⟩ := Wide.dig_next UY.out BD1.out B1'.out HD.out (.inl (by omega))
        have G := Lib.hid (And.intro g1 (And.intro g2 (And.intro g3 g4)))
        clear g1 g2 g3 g4
        by_cases hbr : (4294967296 : Int) ≤ (r : Int) + n1
        · go_wp2_with fail
          go_meet
          exact ⟨rfl, by rw [u64_pred G.out.1, Wide.dig_break (Nat.lt_of_lt_of_le (by decide) B1.out) B0.out G.out.2.1 G.out.2.2.1 (by omega) G.out.2.2.2, ← Q1.out]⟩
        · go_wp2_with fail
          go_round
          case rel => exact ⟨t - 1, r + n1, u64_pred G.out.1, by go_num, ⟨G.out.2.1, G.out.2.2.1, by omega, Nat.le_trans G.out.2.2.2 (by decide)⟩⟩
          case measure => have := G.out.1; simp [RowKit.intOf]; omega
      · obtain ⟨p, hp⟩ : ∃ p, t * n0 = p := ⟨_, rfl⟩
        have hpl : p < 18446744073709551616 := by rw [← hp]; exact mul_small (by omega) B0.out
        have ep : IntKind.u64.wrap ((t : Int) * (n0 : Int)) = (p : Int) := by rw [← Int.natCast_mul, hp]; exact wrap_nat hpl
        have HP := Lib.hid hp
        clear hp hpl
        by_cases hc : 4294967296 * (r : Int) + (d1 : Int) < (p : Int)
        · obtain ⟨g1, g2, g3, g4⟩ := Wide.dig_next UY.out BD1.out B1'.out HD.out (.inr (by rw [HP.out]; omega))
          have G := Lib.hid (And.intro g1 (And.intro g2 (And.intro g3 g4)))
          have g1' : (1 : Int) ≤ (t : Int) := by omega
          clear g1 g2 g3 g4
          by_cases hbr : (4294967296 : Int) ≤ (r : Int) + n1
          · go_wp2_with fail
            go_meet
            exact ⟨rfl, by rw [u64_pred G.out.1, Wide.dig_break (Nat.lt_of_lt_of_le (by decide) B1.out) B0.out G.out.2.1 G.out.2.2.1 (by omega) G.out.2.2.2, ← Q1.out]⟩
          · go_wp2_with fail
            go_round
            case rel => exact ⟨t - 1, r + n1, u64_pred G.out.1, by go_num, ⟨G.out.2.1, G.out.2.2.1, by omega, Nat.le_trans G.out.2.2.2 (by decide)⟩⟩
            case measure => have := G.out.1; simp [RowKit.intOf]; omega
        · go_wp2_with fail
          go_meet
          exact ⟨rfl, by rw [Wide.dig_stop (Nat.lt_of_lt_of_le (by decide) B1.out) HD.out (by rw [HP.out]; omega), ← Q1.out]⟩
  case rest =>
    obtain ⟨rfl, rfl⟩ := hcut
    go_upto_block 2 with fail
    go_cut [18] (fun s18 wx => w = wx ∧ s18 = .int .u64 (q0 : Int))
    case first =>
      go_wp2_with fail
      go_loop [18, 16] (fun a b => ∃ t r : Nat, a = .int .u64 t ∧ b = .int .u64 r ∧ Wide.Dig n1 n0 u2 d0 t r) (fun a _ => (RowKit.intOf a).toNat)
      case atStart => exact ⟨t2, r2, rfl, rfl, st2⟩
      case round =>
        obtain ⟨t, r, rfl, rfl, hD⟩ := hrel
        have bt : (t : Int) ≤ 4294967297 := by have := hD.le; omega
        have br : (r : Int) < 4294967296 := by have := hD.left; omega
        have bn : (n1 : Int) < 4294967296 := by have := B1'.out; omega
        have bdd : (d0 : Int) < 4294967296 := by have := BD0.out; omega
        have HD := Lib.hid hD
        clear hD b1 b1' b0 bd1 bd0 bq1 bq0 u2Yn uYn Yl hlo hy hhi hhi0 bt1 bt2 uY u2Y u3Y hY0 st1 st2
        by_cases hb : (4294967296 : Int) ≤ (t : Int)
        · obtain ⟨g1, g2, g3, g4⟩ := Wide.dig_next UY2.out BD0.out B1'.out HD.out (.inl (by omega))
          have G := Lib.hid (And.intro g1 (And.intro g2 (And.intro g3 g4)))
          clear g1 g2 g3 g4
          by_cases hbr : (4294967296 : Int) ≤ (r : Int) + n1
          · go_wp2_with fail
            go_meet
            exact ⟨rfl, by rw [u64_pred G.out.1, Wide.dig_break (Nat.lt_of_lt_of_le (by decide) B1.out) B0.out G.out.2.1 G.out.2.2.1 (by omega) G.out.2.2.2, ← Q0.out]⟩
          · go_wp2_with fail
            go_round
            case rel => exact ⟨t - 1, r + n1, u64_pred G.out.1, by go_num, ⟨G.out.2.1, G.out.2.2.1, by omega, Nat.le_trans G.out.2.2.2 (by decide)⟩⟩
            case measure => have := G.out.1; simp [RowKit.intOf]; omega
        · obtain ⟨p, hp⟩ : ∃ p, t * n0 = p := ⟨_, rfl⟩
          have hpl : p < 18446744073709551616 := by rw [← hp]; exact mul_small (by omega) B0.out
          have ep : IntKind.u64.wrap ((t : Int) * (n0 : Int)) = (p : Int) := by rw [← Int.natCast_mul, hp]; exact wrap_nat hpl
          have HP := Lib.hid hp
          clear hp hpl
          by_cases hc : 4294967296 * (r : Int) + (d0 : Int) < (p : Int)
          · obtain ⟨g1, g2, g3, g4⟩ := Wide.dig_next UY2.out BD0.out B1'.out HD.out (.inr (by rw [HP.out]; omega))
            have G := Lib.hid (And.intro g1 (And.intro g2 (And.intro g3 g4)))
            have g1' : (1 : Int) ≤ (t : Int) := by omega
            clear g1 g2 g3 g4
            by_cases hbr : (4294967296 : Int) ≤ (r : Int) + n1
            · go_wp2_with fail
              go_meet
              exact ⟨rfl, by rw [u64_pred G.out.1, Wide.dig_break (Nat.lt_of_lt_of_le (by decide) B1.out) B0.out G.out.2.1 G.out.2.2.1 (by omega) G.out.2.2.2, ← Q0.out]⟩
            · go_wp2_with fail
              go_round
              case rel => exact ⟨t - 1, r + n1, u64_pred G.out.1, by go_num, ⟨G.out.2.1, G.out.2.2.1, by omega, Nat.le_trans G.out.2.2.2 (by decide)⟩⟩
              case measure => have := G.out.1; simp [RowKit.intOf]; omega
          · go_wp2_with fail
            go_meet
            exact ⟨rfl, by rw [Wide.dig_stop (Nat.lt_of_lt_of_le (by decide) B1.out) HD.out (by rw [HP.out]; omega), ← Q0.out]⟩
    case rest =>
      obtain ⟨rfl, rfl⟩ := hcut
      have cq1 : (q1 : Int) < 4294967296 := by omega
      have cq0 : (q0 : Int) < 4294967296 := by omega
      have cu3 : (u3 : Int) < 18446744073709551616 := by omega
      have cs : (s : Int) < 64 := by omega
      clear b1 b1' b0 bd1 bd0 bq1 bq0 u2Yn uYn Yl hlo hy hhi hhi0 bt1 bt2 uY u2Y u3Y hY0 st1 st2
      go_wp2_with fail
      go_ret2
      exact ⟨congrArg Ending.returned (congrArg Value.tuple (by rw [Ez.out]; rfl)), 0, rfl⟩
theorem bitsDiv64 (hi lo y : Nat) (hhi : hi < y) (hlo : lo < 18446744073709551616) (hy : y < 18446744073709551616) (w : World) :
    Calls Tryd.prog 95 #[.int .u64 hi, .int .u64 lo, .int .u64 y] w fun e w' => e = .returned (.tuple #[.int .u64 (((hi * 18446744073709551616 + lo) / y : Nat) : Int), .int .u64 (((hi * 18446744073709551616 + lo) % y : Nat) : Int)]) ∧ ∃ n, w' = w.drewN n := by
  by_cases h : hi = 0
  · subst h
    have c := div64_small lo y hlo hhi hy w
    rw [Nat.zero_mul, Nat.zero_add]
    exact c
  · exact div64_big hi lo y hhi (by omega) hlo hy w
end Go.Proofs.YtlclfonlidcfiaaDoor
