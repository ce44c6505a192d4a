/- The greatest number outside of a lobe, by the model. -/
import Derived.Test.YtjmgohlepglkoaaRows
import Derived.Test.YtjmgohlepglkoaaSlc
import Derived.Test.YtjmgohlepglkoaaSmall
import Derived.Test.YtjmgohlepglkoaaFloats
import Derived.Test.YtjmgohlepglkoaaRound
import Derived.Test.YtjmgohlepglkoaaValues
import Derived.Test.YtjmgohlepglkoaaConv
import Derived.Test.YtjmgohlepglkoaaFWalk
import Derived.Test.YtjmgohlepglkoaaCut
import Derived.Test.YtjmgohlepglkoaaSideNum
import Derived.Test.YtjmgohlepglkoaaListF
import Derived.Test.YtjmgohlepglkoaaPeak
import Derived.Test.YtjmgohlepglkoaaReach
import Derived.Test.YtjmgohlepglkoaaReach2
import Derived.WalkKit
import Derived.ProofKit
import Derived.OpenShut
import Derived.ShutString
import Derived.ChangeOld
import Derived.Below
import Derived.Lib.Hide
import Derived.BigQuiet
import Derived.Deep.QuietTactic
import Derived.WalkLawsBesides
import Derived.Outline
import Derived.Deep.QuietTactic
import Derived.BigQuiet
import Derived.Deep.LoopGhost
namespace Go.Proofs.Ytjmgohlepglkoaa.side
open Go.ChangeShapes Go.WideShapes Go.ChangeAt Go.RowKit
open Go.ChangeMaps (open_string shut_string)
set_option linter.unusedVariables false
open Go Ieee Go.RowKit
open Go.Proofs.Ytjmgohlepglkoaa.slc Go.Proofs.Ytjmgohlepglkoaa.small Go.Proofs.Ytjmgohlepglkoaa.floats Go.Proofs.Ytjmgohlepglkoaa.cut Go.Proofs.Ytjmgohlepglkoaa.sideNum Go.Proofs.Ytjmgohlepglkoaa.listF Go.Proofs.Ytjmgohlepglkoaa.peak Go.Proofs.Ytjmgohlepglkoaa.reach Go.Proofs.Ytjmgohlepglkoaa.reach2

set_option maxHeartbeats 1600000 in
set_option maxRecDepth 100000 in
theorem side_spec (ad : Addr) (n c B a lo hi : Nat) (x : Nat → Nat) (w : World) (hn : n ≤ 129) (hk : a < n) (hB : B ≤ w.heap.size) (ha : Rd w B (some ad) n (fl x))
    (hR : reach (mR x) n a = (lo, hi)) (hhi : hi ≤ 129) (hlo : lo ≤ 129) :
    Calls Try.prog 34 #[.slice (some ad) n c, .int .i64 a] w fun e w' => e = .returned (.tuple #[.float .f32 (if 0 ≤ sdI x lo hi n then x (sdI x lo hi n).toNat else 0), .bool (decide (0 ≤ sdI x lo hi n))]) ∧ w.grownBy w' none := by
  have HR := fun w hB ha => main_spec ad n c B a x w hn hk hB ha
  rw [hR] at HR
  have p1 : (0 : Int) ≤ a := by omega
  have p2 : (a : Int) ≤ (n : Int) - 1 := by omega
  have p3 : (n : Int) ≤ 129 := by omega
  have hfin : 0 ≤ sdI x lo hi n → ∃ q : Nat, sdI x lo hi n = (q : Int) ∧ q < n := fun h0 => ⟨(sdI x lo hi n).toNat, by omega, by have := sdI_bd x lo hi n; omega⟩
  have hG : ∃ G, sdI x lo hi n = G := ⟨_, rfl⟩
  obtain ⟨G, hG⟩ := hG
  rw [hG] at hfin ⊢
  have HG := Lib.hid hG
  have HF := Lib.hid hfin
  clear hR hG hfin
  go_enter Try.func34, Try.ntmps34
  go_wp2_with fail
  refine (few_yes _ _ _ _ (by omega) hn).mono ?_
  rintro e w' ⟨rfl, rfl⟩
  go_wp2_with fail
  refine (in_yes _ _ _ _ p1 p2).mono ?_
  rintro e w' ⟨rfl, rfl⟩
  go_wp2_with fail
  refine (HR _ hB ha).mono ?_
  rintro e w1 ⟨rfl, hg1⟩
  go_wp2_with fail
  go_loopw [8, 9] (fun p i wr => ∃ k : Nat, k ≤ n ∧ i = .int .i64 k ∧ p = .int .i64 (sdI x lo hi k) ∧ w.grownBy wr none) (fun _ i _ => n - (intOf i).toNat)
  case atStart => exact ⟨0, Nat.zero_le _, rfl, rfl, hg1⟩
  case round =>
    obtain ⟨k, hk, rfl, rfl, hg⟩ := hrel
    clear HR
    by_cases hlt : k < n
    · have hrd := ha.kept0 hg hB
      obtain ⟨ad', he, _, hc0⟩ := hrd.at_ hlt
      injection he with he
      subst he
      have hc : wr.cell? (ad.add k) = some (.float .f32 (x k)) := hc0
      have hk0 : (0 : Int) ≤ k := by omega
      have hk1 : (k : Int) < n := by omega
      have hbd := sdI_bd x lo hi k
      have hps := sdI_succ x lo hi k
      by_cases hin : lo ≤ k ∧ k ≤ hi
      · have e : sdI x lo hi (k + 1) = sdI x lo hi k := by rw [hps, if_neg (by rintro ⟨h | h, _⟩ <;> omega)]
        have HE := Lib.hid e
        have i1 : decide ((k : Int) < (lo : Int)) = false := by simp; omega
        have i2 : decide ((hi : Int) < (k : Int)) = false := by simp; omega
        have n1 : decide (k < lo) = false := by simp; omega
        have n2 : decide (hi < k) = false := by simp; omega
        have n3 : lo ≤ k := hin.1
        have n4 : k ≤ hi := hin.2
        clear e hps hin hc0 hrd hbd
        generalize sdI x lo hi k = p at *
        go_wp2
        go_quiet (fail)
        go_wp2
        go_roundw
        case rel => exact ⟨k + 1, by omega, by go_num, by rw [HE.out], hg.trans (gb_drewN _ _ _)⟩
        case measure => simp [intOf]; omega
      · have hout : k < lo ∨ hi < k := by omega
        by_cases hA : k < lo
        · have a1 : decide (k < lo) = true := by simp; omega
          have a2 : decide ((k : Int) < (lo : Int)) = true := by simp; omega
          by_cases hnn : isNaN .f32 (x k) = true
          · have ho : FloatKind.f32.format.order (x k) (x k) = none := order_nan_l hnn
            have e : sdI x lo hi (k + 1) = sdI x lo hi k := by rw [hps, if_neg (by rw [ho]; simp)]
            have HE := Lib.hid e
            clear e hps hnn hc0 hrd hbd hin hout
            generalize sdI x lo hi k = p at *
            go_wp2
            go_quiet (fail)
            go_wp2
            go_roundw
            case rel => exact ⟨k + 1, by omega, by go_num, by rw [HE.out], hg.trans (gb_drewN _ _ _)⟩
            case measure => simp [intOf]; omega
          · have ho : FloatKind.f32.format.order (x k) (x k) = some .eq := order_refl (by simpa using hnn)
            by_cases hp : sdI x lo hi k < 0
            · have e : sdI x lo hi (k + 1) = k := by rw [hps, if_pos ⟨hout, ho, .inl hp⟩]
              have HE := Lib.hid e
              clear e hps hnn hc0 hrd hbd hin hout
              generalize sdI x lo hi k = p at *
              go_wp2
              go_quiet (fail)
              go_wp2
              go_roundw
              case rel => exact ⟨k + 1, by omega, by go_num, by rw [HE.out], hg.trans (gb_drewN _ _ _)⟩
              case measure => simp [intOf]; omega
            · obtain ⟨q, hq⟩ : ∃ q : Nat, sdI x lo hi k = (q : Int) := ⟨(sdI x lo hi k).toNat, by omega⟩
              rw [hq] at hbd hps hp ⊢
              have hq1 : q < n := by omega
              have hc1 : wr.cell? (ad.add q) = some (.float .f32 (x q)) := by
                obtain ⟨ad', e, _, h'⟩ := hrd.at_ hq1
                injection e with e; subst e; exact h'
              have hq0 : (0 : Int) ≤ q := by omega
              have hq2 : (q : Int) < n := by omega
              rw [show ((q : Nat) : Int).toNat = q from by omega] at hps
              by_cases hgt : FloatKind.f32.format.order (x k) (x q) = some .gt
              · have e : sdI x lo hi (k + 1) = k := by rw [hps, if_pos ⟨hout, ho, .inr hgt⟩]
                have HE := Lib.hid e
                clear e hps hnn hc0 hrd hbd hq hp hin hout
                go_wp2
                go_quiet (fail)
                go_wp2
                go_roundw
                case rel => exact ⟨k + 1, by omega, by go_num, by rw [HE.out], hg.trans (gb_drewN _ _ _)⟩
                case measure => simp [intOf]; omega
              · have e : sdI x lo hi (k + 1) = q := by rw [hps, if_neg (by rintro ⟨_, _, h | h⟩; exact hp h; exact hgt h)]
                have hgf : (FloatKind.f32.format.order (x k) (x q) == some .gt) = false := by simpa using hgt
                have HE := Lib.hid e
                clear e hps hnn hc0 hrd hbd hgt hq hp hin hout
                go_wp2
                go_quiet (fail)
                go_wp2
                go_roundw
                case rel => exact ⟨k + 1, by omega, by go_num, by rw [HE.out], hg.trans (gb_drewN _ _ _)⟩
                case measure => simp [intOf]; omega
        · have a1 : decide (k < lo) = false := by simp; omega
          have a2 : decide ((k : Int) < (lo : Int)) = false := by simp; omega
          have a3 : lo ≤ k := by omega
          have hB2 : hi < k := by omega
          have a4 : decide (hi < k) = true := by simp; omega
          have a5 : decide ((hi : Int) < (k : Int)) = true := by simp; omega
          clear hA
          by_cases hnn : isNaN .f32 (x k) = true
          · have ho : FloatKind.f32.format.order (x k) (x k) = none := order_nan_l hnn
            have e : sdI x lo hi (k + 1) = sdI x lo hi k := by rw [hps, if_neg (by rw [ho]; simp)]
            have HE := Lib.hid e
            clear e hps hnn hc0 hrd hbd hin hout
            generalize sdI x lo hi k = p at *
            go_wp2
            go_quiet (fail)
            go_wp2
            go_roundw
            case rel => exact ⟨k + 1, by omega, by go_num, by rw [HE.out], hg.trans (gb_drewN _ _ _)⟩
            case measure => simp [intOf]; omega
          · have ho : FloatKind.f32.format.order (x k) (x k) = some .eq := order_refl (by simpa using hnn)
            by_cases hp : sdI x lo hi k < 0
            · have e : sdI x lo hi (k + 1) = k := by rw [hps, if_pos ⟨hout, ho, .inl hp⟩]
              have HE := Lib.hid e
              clear e hps hnn hc0 hrd hbd hin hout
              generalize sdI x lo hi k = p at *
              go_wp2
              go_quiet (fail)
              go_wp2
              go_roundw
              case rel => exact ⟨k + 1, by omega, by go_num, by rw [HE.out], hg.trans (gb_drewN _ _ _)⟩
              case measure => simp [intOf]; omega
            · obtain ⟨q, hq⟩ : ∃ q : Nat, sdI x lo hi k = (q : Int) := ⟨(sdI x lo hi k).toNat, by omega⟩
              rw [hq] at hbd hps hp ⊢
              have hq1 : q < n := by omega
              have hc1 : wr.cell? (ad.add q) = some (.float .f32 (x q)) := by
                obtain ⟨ad', e, _, h'⟩ := hrd.at_ hq1
                injection e with e; subst e; exact h'
              have hq0 : (0 : Int) ≤ q := by omega
              have hq2 : (q : Int) < n := by omega
              rw [show ((q : Nat) : Int).toNat = q from by omega] at hps
              by_cases hgt : FloatKind.f32.format.order (x k) (x q) = some .gt
              · have e : sdI x lo hi (k + 1) = k := by rw [hps, if_pos ⟨hout, ho, .inr hgt⟩]
                have HE := Lib.hid e
                clear e hps hnn hc0 hrd hbd hq hp hin hout
                go_wp2
                go_quiet (fail)
                go_wp2
                go_roundw
                case rel => exact ⟨k + 1, by omega, by go_num, by rw [HE.out], hg.trans (gb_drewN _ _ _)⟩
                case measure => simp [intOf]; omega
              · have e : sdI x lo hi (k + 1) = q := by rw [hps, if_neg (by rintro ⟨_, _, h | h⟩; exact hp h; exact hgt h)]
                have hgf : (FloatKind.f32.format.order (x k) (x q) == some .gt) = false := by simpa using hgt
                have HE := Lib.hid e
                clear e hps hnn hc0 hrd hbd hgt hq hp hin hout
                go_wp2
                go_quiet (fail)
                go_wp2
                go_roundw
                case rel => exact ⟨k + 1, by omega, by go_num, by rw [HE.out], hg.trans (gb_drewN _ _ _)⟩
                case measure => simp [intOf]; omega
    · obtain rfl : k = n := by omega
      rw [HG.out]
      by_cases h0 : 0 ≤ G
      · obtain ⟨q, rfl, hq⟩ := HF.out h0
        have hc1 : wr.cell? (ad.add q) = some (.float .f32 (x q)) := by
          obtain ⟨ad', e, _, h'⟩ := (ha.kept0 hg hB).at_ hq
          injection e with e; subst e; exact h'
        have hq0 : (0 : Int) ≤ q := by omega
        have hq1 : (q : Int) < k := by omega
        clear h0
        go_wp2_with fail
        go_ret2
        exact ⟨by simp, hg⟩
      · have h1 : G < 0 := by omega
        have h2 : decide (0 ≤ G) = false := by simp; omega
        go_wp2_with fail
        go_ret2
        exact ⟨rfl, hg⟩

end Go.Proofs.Ytjmgohlepglkoaa.side
