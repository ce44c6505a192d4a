/- Draws from the bytes of an input. -/
import Derived.Test.YtbefoiikbbjjfaaRows
import Derived.Test.YtbefoiikbbjjfaaSlc
import Derived.Test.YtbefoiikbbjjfaaR8
import Derived.WalkKit
import Derived.ProofKit
import Derived.OpenShut
import Derived.ShutString
import Derived.ChangeOld
import Derived.Below
import Derived.Lib.Hide
import Derived.BigQuiet
import Derived.Deep.QuietTactic
import Derived.WalkLawsBesides
import Derived.Outline
import Derived.Deep.QuietTactic
import Derived.BigQuiet
import Derived.Deep.LoopGhost
import Derived.Laws.Bits64b
namespace Go.Proofs.Ytbefoiikbbjjfaa.src
open Go.ChangeShapes Go.WideShapes Go.ChangeAt Go.RowKit
open Go.ChangeMaps (open_string shut_string)
set_option linter.unusedVariables false
open Go Go.RowKit
open Go.Proofs.Ytbefoiikbbjjfaa.slc Go.Proofs.Ytbefoiikbbjjfaa.r8

/-- A source of choices, in a block of its own, from which at most m have been read. -/
def Src (w : World) (b : Nat) (A : Option Addr) (n c m : Nat) : Prop := ∃ (p : Nat) (s : Int), p ≤ m ∧ 0 ≤ s ∧ s ≤ 18446744073709551615 ∧ w.ownsRow b 197 3 (.slice (some ⟨b, 0, none⟩) 1 1) 1 [.slice A n c, .int .i64 p, .int .u64 s]
section
variable {w w' : World} {b n c m m' : Nat} {A : Option Addr} {row : Option Nat}
theorem Src.mono (h : Src w b A n c m) (hm : m ≤ m') : Src w b A n c m' := by
  obtain ⟨p, s, h1, h2⟩ := h
  exact ⟨p, s, by omega, h2⟩
theorem Src.keep (h : Src w b A n c m) (hg : w.grownBy w' row) (hne : some b ≠ row) : Src w' b A n c m := by
  obtain ⟨p, s, h1, h2, h3, h4⟩ := h
  exact ⟨p, s, h1, h2, h3, World.ownsRow.kept h4 hg (.inr (by simpa [Value.ownBlock] using hne))⟩
theorem Src.keep0 (h : Src w b A n c m) (hg : w.grownBy w' none) : Src w' b A n c m := h.keep hg (by simp)
theorem Src.new (w : World) (A : Option Addr) (n c : Nat) : Src (w.alloc (.cells #[.slice A n c, .int .i64 0, .int .u64 0] 197)) w.heap.size A n c 0 :=
  ⟨0, 0, by omega, by omega, by omega, World.ownsRow_lit w #[.slice A n c, .int .i64 0, .int .u64 0] 1 (Nat.le_refl _) (by decide) rfl⟩
theorem Src.lt (h : Src w b A n c m) : b < w.heap.size := by
  obtain ⟨p, s, _, _, _, h4⟩ := h
  exact World.block_lt_of_cell? w _ (h4.cellAt 0 (by decide))
end

theorem wrap_u64 (x : Int) : 0 ≤ IntKind.u64.wrap x ∧ IntKind.u64.wrap x ≤ 18446744073709551615 := by
  simp [IntKind.wrap, IntKind.bits, IntKind.signed]
  omega
theorem wrap_small (v : Int) (h0 : 0 ≤ v) (h1 : v ≤ 255) : wrap64 v = v := by unfold wrap64; omega
theorem and_255 (t : Int) (h0 : 0 ≤ t) (h1 : t ≤ 18446744073709551615) : ∃ v : Int, bits BinOp.and IntKind.u64 (t / 1099511627776) 255 = v ∧ 0 ≤ v ∧ v ≤ 255 := by
  obtain ⟨n, hn⟩ : ∃ n : Nat, t / 1099511627776 = n := ⟨(t / 1099511627776).toNat, by omega⟩
  rw [hn]
  refine ⟨_, bits_and_u64_nat n 255 (by omega) (by omega), by omega, ?_⟩
  have := Nat.and_le_right (n := n) (m := 255)
  omega
/-- The three cells of a source. -/
structure S3 (w : World) (b : Nat) (v : Value) (p s : Int) : Prop where
  own : w.ownsRow b 197 3 (.slice (some ⟨b, 0, none⟩) 1 1) 1 [v, .int .i64 p, .int .u64 s]
  c0 : w.cell? ⟨b, 0, none⟩ = some v
  c1 : w.cell? ⟨b, 1, none⟩ = some (.int .i64 p)
  c2 : w.cell? ⟨b, 2, none⟩ = some (.int .u64 s)
  f1 : w.frozen? ⟨b, 1, none⟩ = false
  f2 : w.frozen? ⟨b, 2, none⟩ = false
theorem S3.of {w : World} {b : Nat} {v : Value} {p s : Int} (o : w.ownsRow b 197 3 (.slice (some ⟨b, 0, none⟩) 1 1) 1 [v, .int .i64 p, .int .u64 s]) : S3 w b v p s :=
  ⟨o, o.cellAt 0 (by decide), o.cellAt 1 (by decide), o.cellAt 2 (by decide), o.frozenAt 1, o.frozenAt 2⟩
theorem S3.drawn {w : World} {b : Nat} {v : Value} {p s : Int} (h : S3 w b v p s) (n : Nat) : S3 (w.drewN n) b v p s := S3.of (own_kept0 h.own (gb_drewN w n none))
theorem S3.put1 {w : World} {b : Nat} {v : Value} {p s : Int} (h : S3 w b v p s) (q : Int) : S3 (w.setCell ⟨b, 1, none⟩ (.int .i64 q)) b v q s ∧ w.grownBy (w.setCell ⟨b, 1, none⟩ (.int .i64 q)) (some b) :=
  ⟨S3.of (h.own.stored 1 (.int .i64 q)).1, (h.own.stored 1 (.int .i64 q)).2⟩
theorem S3.put2 {w : World} {b : Nat} {v : Value} {p s : Int} (h : S3 w b v p s) (q : Int) : S3 (w.setCell ⟨b, 2, none⟩ (.int .u64 q)) b v p q ∧ w.grownBy (w.setCell ⟨b, 2, none⟩ (.int .u64 q)) (some b) :=
  ⟨S3.of (h.own.stored 2 (.int .u64 q)).1, (h.own.stored 2 (.int .u64 q)).2⟩
set_option maxHeartbeats 2000000 in
set_option maxRecDepth 100000 in
theorem next_is (A : Option Addr) (c B b m : Nat) (z : List Int) (w : World) (hm : m ≤ 1000000) (hl : z.length ≤ 1048576) (hz : Byt z) (hr : Rd w B A z.length (bt z)) (hB : B ≤ b) (hs : Src w b A z.length c m) :
    Calls Try.prog 184 #[.pointer (some ⟨b, 0, none⟩)] w fun e w' => ∃ v : Int, 0 ≤ v ∧ v ≤ 255 ∧ e = .returned (.int .i64 v) ∧ Src w' b A z.length c (m + 1) ∧ w.grownBy w' (some b) := by
  obtain ⟨p, s, hp, s0, s1, ho⟩ := hs
  have o0 := S3.of ho
  clear ho
  have HO := Lib.hid o0
  have c0 := o0.c0
  have c1 := o0.c1
  clear o0
  by_cases hk : p < z.length
  · obtain ⟨ad, rfl, hab, hc⟩ := hr.at_ hk
    have hb := hz _ (List.getElem_mem hk)
    have hc' : w.cell? (ad.add p) = some (.int .u8 z[p]) := by rw [hc]; unfold bt; simp [List.getD, hk]
    have b1 := hb.1
    have b2 := hb.2
    have k0 : (0 : Int) ≤ p := by omega
    have k1 : (p : Int) < z.length := by omega
    clear hc hb
    generalize z[p] = x at *
    go_enter Try.func184, Try.ntmps184
    go_wp2_with fail
    go_quiet (fail)
    have hc1 : (w.drewN nq).cell? (ad.add p) = some (.int .u8 x) := hc'
    have o1 := HO.out.drawn nq
    have g1 := gb_drewN w nq (some b)
    clear c0 c1 HO hc' hr
    generalize w.drewN nq = w1 at *
    have c0 := o1.c0
    have c1 := o1.c1
    have H1 := Lib.hid o1
    clear o1
    go_wp2_with fail
    go_quiet (fail)
    have o2 := H1.out.drawn nq
    have g2 := g1.trans (gb_drewN w1 nq (some b))
    clear c0 c1 H1 hc1 g1
    generalize w1.drewN nq = w2 at *
    have c1 := o2.c1
    have c2 := o2.c2
    have f1 := o2.f1
    have f2 := o2.f2
    have H2 := Lib.hid o2
    have G2 := Lib.hid g2
    clear o2 g2
    go_wp2_with fail
    obtain ⟨o3, g3⟩ := H2.out.put1 ((p : Int) + 1)
    obtain ⟨o4, g4⟩ := o3.put2 (IntKind.u64.wrap (IntKind.u64.wrap (IntKind.u64.wrap (s * 6364136223846793005) + x) + 1442695040888963407))
    have g5 := (G2.out.trans g3).trans g4
    obtain ⟨t0, t1⟩ := wrap_u64 (IntKind.u64.wrap (IntKind.u64.wrap (s * 6364136223846793005) + x) + 1442695040888963407)
    generalize IntKind.u64.wrap (IntKind.u64.wrap (IntKind.u64.wrap (s * 6364136223846793005) + x) + 1442695040888963407) = t at *
    clear c1 c2 f1 f2 H2 G2 o3 g3 g4
    obtain ⟨w3, hw3⟩ : ∃ w3, (w2.setCell ⟨b, 1, none⟩ (.int .i64 ((p : Int) + 1))).setCell ⟨b, 2, none⟩ (.int .u64 t) = w3 := ⟨_, rfl⟩
    rw [hw3] at o4 g5 ⊢
    clear hw3
    have c0 := o4.c0
    have c1 := o4.c1
    have H4 := Lib.hid o4
    have G5 := Lib.hid g5
    clear o4 g5
    have k2 : (p : Int) + 1 ≤ z.length := by omega
    go_quiet (fail)
    have o5 := H4.out.drawn nq
    have g5 := G5.out.trans (gb_drewN w3 nq (some b))
    clear c0 c1 H4 G5
    generalize w3.drewN nq = w4 at *
    go_wp2_with fail
    go_ret
    exact ⟨x, b1, b2, rfl, ⟨p + 1, t, by omega, t0, t1, o5.own⟩, g5⟩
  · have k1 : (z.length : Int) ≤ p := by omega
    clear hr
    go_enter Try.func184, Try.ntmps184
    go_wp2_with fail
    go_quiet (fail)
    have o2 := HO.out.drawn nq
    have g2 := gb_drewN w nq (some b)
    clear c0 c1 HO
    generalize w.drewN nq = w2 at *
    have c1 := o2.c1
    have c2 := o2.c2
    have f1 := o2.f1
    have f2 := o2.f2
    have H2 := Lib.hid o2
    have G2 := Lib.hid g2
    clear o2 g2
    go_wp2_with fail
    obtain ⟨o3, g3⟩ := H2.out.put1 ((p : Int) + 1)
    obtain ⟨o4, g4⟩ := o3.put2 (IntKind.u64.wrap (IntKind.u64.wrap (IntKind.u64.wrap (s * 6364136223846793005)) + 1442695040888963407))
    have g5 := (G2.out.trans g3).trans g4
    obtain ⟨t0, t1⟩ := wrap_u64 (IntKind.u64.wrap (IntKind.u64.wrap (s * 6364136223846793005)) + 1442695040888963407)
    generalize IntKind.u64.wrap (IntKind.u64.wrap (IntKind.u64.wrap (s * 6364136223846793005)) + 1442695040888963407) = t at *
    clear c1 c2 f1 f2 H2 G2 o3 g3 g4
    obtain ⟨w3, hw3⟩ : ∃ w3, (w2.setCell ⟨b, 1, none⟩ (.int .i64 ((p : Int) + 1))).setCell ⟨b, 2, none⟩ (.int .u64 t) = w3 := ⟨_, rfl⟩
    rw [hw3] at o4 g5 ⊢
    clear hw3
    have c0 := o4.c0
    have c1 := o4.c1
    have H4 := Lib.hid o4
    have G5 := Lib.hid g5
    clear o4 g5
    have k2 : (z.length : Int) < (p : Int) + 1 := by omega
    go_quiet (fail)
    have o5 := H4.out.drawn nq
    have g5 := G5.out.trans (gb_drewN w3 nq (some b))
    clear c0 c1 H4 G5
    generalize w3.drewN nq = w4 at *
    have c2 := o5.c2
    have H5 := Lib.hid o5
    have G5 := Lib.hid g5
    clear o5 g5
    go_wp2_with fail
    go_ret
    obtain ⟨v, hv, v0, v1⟩ := and_255 t t0 t1
    exact ⟨v, v0, v1, by rw [hv, wrap_small v v0 v1]; rfl, ⟨p + 1, t, by omega, t0, t1, H5.out.own⟩, G5.out⟩

/-- A number below k: the source is read at most twice. -/
theorem pick_is (A : Option Addr) (c B b m : Nat) (z : List Int) (k : Int) (w : World) (hm : m ≤ 900000) (hl : z.length ≤ 1048576) (hz : Byt z) (hr : Rd w B A z.length (bt z)) (hB : B ≤ b) (hs : Src w b A z.length c m) (h1 : 2 ≤ k) (h2 : k ≤ 60000) :
    Calls Try.prog 128 #[.pointer (some ⟨b, 0, none⟩), .int .i64 k] w fun e w' => ∃ v : Int, 0 ≤ v ∧ v < k ∧ e = .returned (.int .i64 v) ∧ Src w' b A z.length c (m + 2) ∧ w.grownBy w' (some b) := by
  have hn := next_is A c B b m z w (by omega) hl hz hr hB hs
  have HN := Lib.hid hn
  have hkeep : ∀ w1 : World, w.grownBy w1 (some b) → Rd w1 B A z.length (bt z) := fun w1 hg => by
    refine hr.kept hg ?_ ?_
    · exact Nat.le_trans hB (Nat.le_of_lt hs.lt)
    · intro b' hb' hlt e; injection e with e; omega
  have HK := Lib.hid hkeep
  clear hn hkeep
  by_cases hk : 200 < k
  · go_enter Try.func128, Try.ntmps128
    go_wp2_with fail
    refine HN.out.mono ?_
    rintro e w1 ⟨v, v0, v1, rfl, s1, g1⟩
    have hn2 := next_is A c B b (m + 1) z w1 (by omega) hl hz (HK.out w1 g1) hB s1
    have HN2 := Lib.hid hn2
    clear hn2
    go_wp2_with fail
    refine HN2.out.mono ?_
    rintro e w2 ⟨u, u0, u1, rfl, s2, g2⟩
    have t1 := Int.emod_nonneg (v * 256 + u) (show k ≠ 0 by omega)
    have t2 := Int.emod_lt_of_pos (v * 256 + u) (show 0 < k by omega)
    go_wp2_with fail
    go_ret
    exact ⟨(v * 256 + u) % k, t1, t2, by simp, s2, g1.trans g2⟩
  · go_enter Try.func128, Try.ntmps128
    go_wp2_with fail
    refine HN.out.mono ?_
    rintro e w1 ⟨v, v0, v1, rfl, s1, g1⟩
    have t1 := Int.emod_nonneg v (show k ≠ 0 by omega)
    have t2 := Int.emod_lt_of_pos v (show 0 < k by omega)
    go_wp2_with fail
    go_ret
    exact ⟨v % k, t1, t2, by simp, s1.mono (by omega), g1⟩

end Go.Proofs.Ytbefoiikbbjjfaa.src
