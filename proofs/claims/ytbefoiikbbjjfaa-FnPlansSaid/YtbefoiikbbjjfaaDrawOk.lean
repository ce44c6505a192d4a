/- Draws of valid places. -/
import Derived.Test.YtbefoiikbbjjfaaRows
import Derived.Test.YtbefoiikbbjjfaaSlc
import Derived.Test.YtbefoiikbbjjfaaSmall
import Derived.Test.YtbefoiikbbjjfaaOpens
import Derived.Test.YtbefoiikbbjjfaaPlaceAll
import Derived.Test.YtbefoiikbbjjfaaR8
import Derived.Test.YtbefoiikbbjjfaaSrc
import Derived.WalkKit
import Derived.ProofKit
import Derived.OpenShut
import Derived.ShutString
import Derived.ChangeOld
import Derived.Below
import Derived.Lib.Hide
import Derived.BigQuiet
import Derived.Deep.QuietTactic
import Derived.WalkLawsBesides
import Derived.Outline
import Derived.Deep.LoopGhost
import Derived.Deep.RegionLaw
namespace Go.Proofs.Ytbefoiikbbjjfaa.drawOk
open Go.ChangeShapes Go.WideShapes Go.ChangeAt Go.RowKit
open Go.ChangeMaps (open_string shut_string)
set_option linter.unusedVariables false
open Go Go.RowKit
open Go.Proofs.Ytbefoiikbbjjfaa.slc Go.Proofs.Ytbefoiikbbjjfaa.small Go.Proofs.Ytbefoiikbbjjfaa.opens Go.Proofs.Ytbefoiikbbjjfaa.places Go.Proofs.Ytbefoiikbbjjfaa.placeSet Go.Proofs.Ytbefoiikbbjjfaa.listP Go.Proofs.Ytbefoiikbbjjfaa.r8 Go.Proofs.Ytbefoiikbbjjfaa.src

theorem own_away {w w' : World} {base b : Nat} {e : TypeId} {size : Nat} {v : Value} {n : Nat} {xs : List Value} (h : w.ownsRow base e size v n xs) (hg : w.grownBy w' (some b)) (hb : b < base) : w'.ownsRow base e size v n xs :=
  World.ownsRow.kept h hg (.inr (fun e => by
    have := (h.lt b e).1
    omega))
/-- An append to a row of the call's own, as one step of a region that draws its order. -/
theorem step_append_own {P : Program} {ops : Array Oper} {o : Oper} {a : Act} {w : World} {K : Act → World → Prop} {Q : Exit → Act → World → Prop} {E : Prop}
    (hg : o.guard = none) (s x : Operand) (t : TypeId) (hop : o.op = Op.call { callee := Callee.builtin Builtin.append, args := #[s, x], argTypes := #[t, t] })
    (base : Nat) (e : TypeId) (i : TypeInfo) (z : Value) (size bytes : Nat) (h1 : P.underlying t = some (.slice e)) (h2 : P.info? e = some i) (h3 : i.zero = some z) (h4 : i.size = size) (h5 : i.bytes = bytes) (h6 : z.cells.size = size) (h7 : 0 < size)
    (v : Value) (n : Nat) (olds : List Value) (hs : a.eval s = v) (hown : w.ownsRow base e size v n olds)
    (ad : Addr) (m c : Nat) (news : List Value) (hx : a.eval x = .slice (some ad) m c) (hn : news.length = m * size) (hc : ∀ j u, news[j]? = some u → w.cell? (ad.add j) = some u) (h1c : ∀ u ∈ news, u.oneCell' = true)
    (b1 : n + m ≤ maxLen) (b2 : (n + m) * bytes ≤ 140737488355328) (hb : base ≤ w.heap.size)
    (hK : ∀ v' w', w'.ownsRow base e size v' (n + m) (olds ++ news) → w.grownBy w' v.ownBlock → K (a.put o.dst v') w') :
    if Region.wanted o (yielded ops a.tmps) = true then Oper.wp P o a w K Q else E := by
  have hw : Region.wanted o (yielded ops a.tmps) = true := by simp [Region.wanted, hg]
  rw [if_pos hw]
  obtain ⟨v', w', hrun, r1, r2, _⟩ := run_append_own (P := P) w base t o.type e i z size bytes h1 h2 h3 h4 h5 h6 h7 v n olds hown ad m c news hn hc h1c b1 b2 hb
  unfold Oper.wp
  simp [execOp, hop, resolve, invoke, builtin, hs, hx, hrun, Result.andThen]
  exact hK v' w' r1 r2

/-- A block of the call's own that holds a place. -/
def Bx (w : World) (b : Nat) (x y : Int) : Prop := w.ownsRow b 96 2 (.slice (some ⟨b, 0, none⟩) 1 1) 1 [.int .i64 x, .int .i64 y]
section
variable {w w' : World} {b : Nat} {x y : Int} {row : Option Nat}
theorem Bx.new (w : World) (x y : Int) : Bx (w.alloc (.cells #[.int .i64 x, .int .i64 y] 96)) w.heap.size x y := World.ownsRow_lit w #[.int .i64 x, .int .i64 y] 1 (Nat.le_refl _) (by decide) rfl
theorem Bx.facts (h : Bx w b x y) : w.cell? ⟨b, 0, none⟩ = some (.int .i64 x) ∧ w.cell? ⟨b, 1, none⟩ = some (.int .i64 y) ∧ w.frozen? ⟨b, 0, none⟩ = false ∧ w.frozen? ⟨b, 1, none⟩ = false :=
  ⟨h.cellAt 0 (by decide), h.cellAt 1 (by decide), h.frozenAt 0, h.frozenAt 1⟩
theorem Bx.put1 (h : Bx w b x y) (x' : Int) : Bx (w.setCell ⟨b, 0, none⟩ (.int .i64 x')) b x' y ∧ w.grownBy (w.setCell ⟨b, 0, none⟩ (.int .i64 x')) (some b) := h.stored 0 (.int .i64 x')
theorem Bx.put2 (h : Bx w b x y) (y' : Int) : Bx (w.setCell ⟨b, 1, none⟩ (.int .i64 y')) b x y' ∧ w.grownBy (w.setCell ⟨b, 1, none⟩ (.int .i64 y')) (some b) := h.stored 1 (.int .i64 y')
theorem Bx.keep (h : Bx w b x y) (hg : w.grownBy w' row) (hne : some b ≠ row) : Bx w' b x y := World.ownsRow.kept h hg (.inr (by simpa [Value.ownBlock] using hne))
theorem Bx.lt (h : Bx w b x y) : b < w.heap.size := World.block_lt_of_cell? w _ h.facts.1
end
/-- Yes once in k times. -/
theorem one_is (A : Option Addr) (c B b m : Nat) (z : List Int) (k : Int) (w : World) (hm : m ≤ 900000) (hl : z.length ≤ 1048576) (hz : Byt z) (hr : Rd w B A z.length (bt z)) (hB : B ≤ b) (hs : Src w b A z.length c m) (h1 : 2 ≤ k) (h2 : k ≤ 60000) :
    Calls Try.prog 164 #[.pointer (some ⟨b, 0, none⟩), .int .i64 k] w fun e w' => ∃ v : Bool, e = .returned (.bool v) ∧ Src w' b A z.length c (m + 2) ∧ w.grownBy w' (some b) := by
  have hp := pick_is A c B b m z k w hm hl hz hr hB hs h1 h2
  have HP := Lib.hid hp
  clear hp
  go_enter Try.func164, Try.ntmps164
  go_wp2_with fail
  refine HP.out.mono ?_
  rintro e w1 ⟨v, v0, v1, rfl, s1, g1⟩
  clear HP
  by_cases hv : v = 0
  · subst hv
    go_wp2_with fail
    go_ret
    exact ⟨true, rfl, s1, g1⟩
  · go_wp2_with fail
    go_ret
    exact ⟨false, by simp [hv], s1, g1⟩
theorem keepR {w w1 : World} {A : Option Addr} {n B b : Nat} {f : Nat → Value} (h : Rd w B A n f) (hg : w.grownBy w1 (some b)) (hB : B ≤ b) (hb : b < w.heap.size) : Rd w1 B A n f :=
  h.kept hg (by omega) (by intro b' _ hlt e; injection e with e; omega)

theorem ok_small (x y : Int) (h1 : -4096 ≤ x) (h2 : x ≤ 4096) (h3 : -4096 ≤ y) (h4 : y ≤ 4096) : okB x y = true := decide_eq_true ⟨h1, h2, h3, h4⟩
theorem gb_new2 {a b c : World} {r row : Option Nat} (h : a.grownBy b r) (k : b.grownBy c row) (hr : ∀ g, row = some g → a.heap.size ≤ g) : a.grownBy c r :=
  ⟨k.os.trans h.os, k.tape.trans h.tape, k.output.trans h.output, Nat.le_trans h.size k.size, fun i hi hne =>
    (k.block i (Nat.lt_of_lt_of_le hi h.size) (fun e => by have := hr i e.symm; omega)).trans (h.block i hi hne)⟩
/-- Parts of drawn places are small. -/
def Sm1 (p : Int × Int) : Prop := (-512 ≤ p.1 ∧ p.1 ≤ 512) ∧ -512 ≤ p.2 ∧ p.2 ≤ 512
theorem Sm1.ok {x y : Int} (h : Sm1 (x, y)) : okB x y = true := by
  unfold Sm1 at h
  dsimp only at h
  exact ok_small x y (by omega) (by omega) (by omega) (by omega)
theorem sm_snoc {ps : List (Int × Int)} {x y : Int} (h : ∀ p ∈ ps, Sm1 p) (h1 : Sm1 (x, y)) : ∀ p ∈ ps ++ [(x, y)], Sm1 p := fun p hp => by
  rcases List.mem_append.1 hp with h' | h'
  · exact h p h'
  · rw [List.mem_singleton.1 h']; exact h1
/-- What is known of a world while places are drawn. -/
structure St (w x : World) (b B : Nat) (A : Option Addr) (z : List Int) (c m : Nat) (ps : List (Int × Int)) (ad : Addr) (cc : Nat) : Prop where
  bw : b < w.heap.size
  Bb : B ≤ b
  own : x.ownsRow w.heap.size 96 2 (.slice (some ad) ps.length cc) ps.length (lst (pcell ps) (ps.length * 2))
  src : Src x b A z.length c m
  rd : Rd x B A z.length (bt z)
  gb : w.grownBy x (some b)
  sm : ∀ p ∈ ps, Sm1 p
section
variable {w x y : World} {b B : Nat} {A : Option Addr} {z : List Int} {c m m' : Nat} {ps : List (Int × Int)} {ad : Addr} {cc : Nat}
theorem St.adlt (h : St w x b B A z c m ps ad cc) : w.heap.size ≤ ad.block ∧ ad.block < x.heap.size := own_base h.own _ rfl
theorem St.blt (h : St w x b B A z c m ps ad cc) : b < x.heap.size := h.src.lt
theorem St.size (h : St w x b B A z c m ps ad cc) : w.heap.size ≤ x.heap.size := h.gb.size
theorem St.grow (h : St w x b B A z c m ps ad cc) (g : x.grownBy y none) : St w y b B A z c m ps ad cc :=
  ⟨h.bw, h.Bb, own_kept0 h.own g, h.src.keep0 g, h.rd.kept0 g (Nat.le_trans h.Bb (Nat.le_of_lt h.blt)), h.gb.trans (gb_any g _), h.sm⟩
theorem St.drawn (h : St w x b B A z c m ps ad cc) (g : x.grownBy y (some b)) (s : Src y b A z.length c m') : St w y b B A z c m' ps ad cc :=
  ⟨h.bw, h.Bb, own_away h.own g h.bw, s, keepR h.rd g h.Bb h.blt, h.gb.trans g, h.sm⟩
theorem St.away (h : St w x b B A z c m ps ad cc) {row : Option Nat} (g : x.grownBy y row) (hr : ∀ q, row = some q → w.heap.size ≤ q ∧ q ≠ ad.block) : St w y b B A z c m ps ad cc := by
  have hb := h.bw
  refine ⟨h.bw, h.Bb, World.ownsRow.kept h.own g (.inr ?_), h.src.keep g ?_, h.rd.kept g (Nat.le_trans h.Bb (Nat.le_of_lt h.blt)) ?_, gb_new2 h.gb g fun q e => (hr q e).1, h.sm⟩
  · rw [own_blk]
    intro e
    exact (hr _ e.symm).2 rfl
  · intro e
    have := (hr _ e.symm).1
    omega
  · intro b' _ hlt e
    have := (hr _ e.symm).1
    have := h.Bb
    omega
end
theorem cell_past {w : World} {p : Addr} {v : Value} {o : Obj} (h : w.cell? p = some v) : (w.alloc o).cell? p = some v := (World.grownBy_alloc w o none).cell h (by simp)
theorem cell_drew {w : World} {p : Addr} {v : Value} (h : w.cell? p = some v) : w.drew.cell? p = some v := h
theorem lit0 (w : World) (base : Nat) (h : base ≤ w.heap.size) : (w.alloc (.cells #[] 96)).ownsRow base 96 2 (.slice (some ⟨w.heap.size, 0, none⟩) 0 0) 0 [] :=
  World.ownsRow_lit (base := base) (e := 96) (size := 2) w #[] 0 h (Nat.zero_le _) rfl
theorem lit1 (w : World) (o : Obj) (base : Nat) (h : base ≤ w.heap.size) : ((w.alloc o).alloc (.cells #[] 96)).ownsRow base 96 2 (.slice (some ⟨w.heap.size + 1, 0, none⟩) 0 0) 0 [] := by
  have h1 := lit0 (w.alloc o) base (by simp; omega)
  rwa [show (w.alloc o).heap.size = w.heap.size + 1 by simp] at h1
theorem news1 (w : World) (x y : Int) : ∀ j u, [Value.int .i64 x, .int .i64 y][j]? = some u → (w.alloc (.cells #[.int .i64 x, .int .i64 y] 96)).cell? ((⟨w.heap.size, 0, none⟩ : Addr).add j) = some u :=
  World.news_of_block (cs := #[.int .i64 x, .int .i64 y]) (t := 96) (fr := (0, 0)) (heap_alloc_new w _)
theorem news2 (w : World) (o : Obj) (x y : Int) : ∀ j u, [Value.int .i64 x, .int .i64 y][j]? = some u → ((w.alloc o).alloc (.cells #[.int .i64 x, .int .i64 y] 96)).cell? ((⟨w.heap.size + 1, 0, none⟩ : Addr).add j) = some u := by
  have h1 := news1 (w.alloc o) x y
  rwa [show (w.alloc o).heap.size = w.heap.size + 1 by simp] at h1
theorem ne_blk (a b j : Nat) (h : a ≠ b) : some ((⟨a, 0, none⟩ : Addr).add j).block ≠ (Value.slice (some ⟨b, 0, none⟩) 0 0).ownBlock := by
  rw [own_blk, add_block]
  intro e
  exact h (by simpa using e)
theorem own_q {a q : Nat} (e : (Value.slice (some ⟨a, 0, none⟩) 0 0).ownBlock = some q) : a = q := by
  rw [own_blk] at e
  simpa using e
theorem gb1 (w : World) (o : Obj) : w.grownBy (w.alloc o).drew none := (World.grownBy_alloc w o none).trans (gb_drewN (w.alloc o) 1 none)
theorem gb2 (w : World) (o o' : Obj) : w.grownBy ((w.alloc o).alloc o').drew none := (World.grownBy_alloc w o none).trans (gb1 _ _)
theorem vp_single {x y : Int} (h : okB x y = true) : vp [(x, y)] = true :=
  vp_mk (by simp) (by simp) (fun p hp => by rw [List.mem_singleton.1 hp]; exact h) (by simp)
theorem news_old {w : World} {base : Nat} {ad : Addr} {cc : Nat} {ps : List (Int × Int)} (h : w.ownsRow base 96 2 (.slice (some ad) ps.length cc) ps.length (lst (pcell ps) (ps.length * 2))) : ∀ j u, (lst (pcell ps) (ps.length * 2))[j]? = some u → w.cell? (ad.add j) = some u := by
  intro j u hu
  have hj : j < ps.length * 2 := by
    rcases Nat.lt_or_ge j (ps.length * 2) with h1 | h1
    · exact h1
    · rw [List.getElem?_eq_none (by rw [lst_len]; exact h1)] at hu
      cases hu
  have hr := Rd.of_lst h rfl
  obtain ⟨ad', e, _, hc⟩ := hr.at_ hj
  injection e with e
  subst e
  rw [hc, ← hu, lst_get _ _ _ hj]
theorem one_places (ps : List (Int × Int)) (n : Nat) : ∀ u ∈ lst (pcell ps) n, u.oneCell' = true := by
  intro u hu
  obtain ⟨j, _, rfl⟩ := List.mem_map.1 hu
  unfold pcell
  split <;> rfl
theorem one_two (x y : Int) : ∀ u ∈ [Value.int .i64 x, Value.int .i64 y], u.oneCell' = true := by
  intro u hu
  rcases List.mem_cons.1 hu with h | h
  · rw [h]; rfl
  · rw [List.mem_singleton.1 h]; rfl

set_option maxHeartbeats 8000000 in
set_option maxRecDepth 100000 in
theorem draw_ok (A : Option Addr) (c B b m : Nat) (z : List Int) (w : World) (hm : m ≤ 1000) (hl : z.length ≤ 1048576) (hz : Byt z) (hr : Rd w B A z.length (bt z)) (hB : B ≤ b) (hs : Src w b A z.length c m) :
    Calls Try.prog 126 #[.pointer (some ⟨b, 0, none⟩)] w fun e w' => ∃ (ps : List (Int × Int)) (A' : Option Addr) (c' : Nat), (vp ps = true ∧ ∀ p ∈ ps, Sm1 p) ∧ e = .returned (.slice A' ps.length c') ∧ w'.ownsRow w.heap.size 96 2 (.slice A' ps.length c') ps.length (lst (pcell ps) (ps.length * 2)) ∧ w.grownBy w' (some b) := by
  obtain ⟨i0, hi0, hz0, hz1, hz2⟩ := info_parts infoP
  have hbw := hs.lt
  have hp1 := pick_is A c B b m z 5 w (by omega) hl hz hr hB hs (by decide) (by decide)
  have HP1 := Lib.hid hp1
  have HZ := Lib.hid hz
  clear hp1 hs hz
  go_enter Try.func126, Try.ntmps126
  go_wp2_with fail
  refine HP1.out.mono ?_
  rintro e w1 ⟨v, v0, v1, rfl, s1, g1⟩
  clear HP1
  have r1 := keepR hr g1 hB hbw
  have hp2 := one_is A c B b (m + 2) z 24 w1 (by omega) hl HZ.out r1 hB s1 (by decide) (by decide)
  have HP2 := Lib.hid hp2
  clear hp2
  go_wp2_with fail
  refine HP2.out.mono ?_
  rintro e w2 ⟨v2, rfl, s2, g2⟩
  clear HP2
  have g12 := g1.trans g2
  have r2 := keepR r1 g2 hB s1.lt
  have hbw2 := s2.lt
  have ga := World.grownBy_alloc w2 (.cells #[] 96) none
  have st2 : St w (w2.alloc (.cells #[] 96)) b B A z c (m + 2 + 2) [] ⟨w2.heap.size, 0, none⟩ 0 :=
    ⟨hbw, hB, lit0 w2 _ g12.size, s2.keep0 ga, r2.kept0 ga (Nat.le_trans hB (Nat.le_of_lt hbw2)), g12.trans (gb_any ga (some b)), by simp⟩
  have hp3 := one_is A c B b (m + 4) z 2 (w2.alloc (.cells #[] 96)) (by omega) hl HZ.out st2.rd hB st2.src (by decide) (by decide)
  have HP3 := Lib.hid hp3
  have HT := Lib.hid st2
  clear hp3 ga st2 s2 r2 g12 g2 s1 g1 r1
  cases v2
  case' false =>
    obtain ⟨N, hN, hN1, hN2⟩ : ∃ N : Nat, 1 + v = N ∧ 1 ≤ N ∧ N ≤ 16 := ⟨(1 + v).toNat, by omega, by omega, by omega⟩
  case' true =>
    obtain ⟨N, hN, hN1, hN2⟩ : ∃ N : Nat, (16 : Int) = N ∧ 1 ≤ N ∧ N ≤ 16 := ⟨16, rfl, by omega, by omega⟩
  all_goals
    go_wp2_with fail
    refine HP3.out.mono ?_
    rintro e w3 ⟨line, rfl, s3, g3⟩
    have st3 := Lib.hid (HT.out.drawn g3 s3)
    clear HP3 HT s3 g3
    generalize w2.heap.size = h2 at *
    try rw [hN]
    go_wp2_with fail
    go_loopw [4, 6] (fun v i wr => ∃ (k : Nat) (ps : List (Int × Int)) (ad : Addr) (cc : Nat), k ≤ N ∧ i = .int .i64 k ∧ v = .slice (some ad) ps.length cc ∧ ps.length ≤ k ∧ ((k = 0 ∧ ps = []) ∨ vp ps = true) ∧ St w wr b B A z c (m + 6 + 4 * k) ps ad cc) (fun _ i _ => N - (intOf i).toNat)
    case atStart => exact ⟨0, [], ⟨h2, 0, none⟩, 0, Nat.zero_le _, rfl, rfl, Nat.le_refl _, .inl ⟨rfl, rfl⟩, st3.out⟩
    case round =>
      obtain ⟨k, ps, ad, cc, hk, rfl, rfl, hpk, hps, hst⟩ := hrel
      clear st3
      by_cases hlt : k < N
      · have hx1 : (32 * (k : Int)) ≤ 480 := by omega
        have hx0 : (0 : Int) ≤ 32 * (k : Int) := by omega
        have hnb := Bx.new wr (32 * (k : Int)) 0
        have hblt := hst.blt
        have hww := hst.size
        have hadlt := hst.adlt
        have sa := hst.grow (World.grownBy_alloc wr (.cells #[.int .i64 (32 * (k : Int)), .int .i64 0] 96) none)
        obtain ⟨wa, hwa⟩ : ∃ wa, wr.alloc (.cells #[.int .i64 (32 * (k : Int)), .int .i64 0] 96) = wa := ⟨_, rfl⟩
        have hp4 := pick_is A c B b (m + 6 + 4 * k) z 257 wa (by omega) hl HZ.out (hwa ▸ sa.rd) hB (hwa ▸ sa.src) (by decide) (by decide)
        have HP4 := Lib.hid hp4
        have HWA := Lib.hid hwa
        have HA := Lib.hid (And.intro hnb sa)
        have HPS := Lib.hid hps
        clear hp4 hwa hnb sa hst hps
        cases line
        case' false =>
          go_wp2_with fail
          obtain ⟨hnb, sa⟩ := HA.out
          rw [HWA.out] at hnb sa ⊢
          clear HWA HA
          generalize wr.heap.size = hx at *
          refine HP4.out.mono ?_
          rintro e w4 ⟨v4, v40, v41, rfl, s4, g4⟩
          have b4 := hnb.keep g4 (by intro e; injection e with e; omega)
          obtain ⟨cx, cy, fx, fy⟩ := b4.facts
          obtain ⟨b5, g5⟩ := b4.put1 (v4 - 128)
          have st5 := (sa.drawn g4 s4).away g5 (by intro q e; injection e with e; omega)
          obtain ⟨w5, hw5⟩ : ∃ w5, w4.setCell ⟨hx, 0, none⟩ (.int .i64 (v4 - 128)) = w5 := ⟨_, rfl⟩
          rw [hw5] at b5 st5
          have hp6 := pick_is A c B b (m + 6 + 4 * k + 2) z 257 w5 (by omega) hl HZ.out st5.rd hB st5.src (by decide) (by decide)
          have HP6 := Lib.hid hp6
          have HW5 := Lib.hid hw5
          have H5 := Lib.hid (And.intro b5 st5)
          clear hnb sa g4 s4 b4 b5 g5 HP4 cy fy hp6 hw5 st5
          go_wp2_with fail
          rw [HW5.out]
          obtain ⟨b5, st5⟩ := H5.out
          clear HW5 H5 cx fx
          refine HP6.out.mono ?_
          rintro e w6 ⟨v6, v60, v61, rfl, s6, g6⟩
          have b6 := b5.keep g6 (by intro e; injection e with e; omega)
          obtain ⟨cx, cy, fx, fy⟩ := b6.facts
          obtain ⟨b7, g7⟩ := b6.put2 (v6 - 128)
          have st7 := (st5.drawn g6 s6).away g7 (by intro q e; injection e with e; omega)
          have st7' : St w (w6.setCell ⟨hx, 1, none⟩ (.int .i64 (v6 - 128))) b B A z c (m + 6 + 4 * (k + 1)) ps ad cc := ⟨st7.bw, st7.Bb, st7.own, st7.src.mono (by omega), st7.rd, st7.gb, st7.sm⟩
          obtain ⟨w7, hw7⟩ : ∃ w7, w6.setCell ⟨hx, 1, none⟩ (.int .i64 (v6 - 128)) = w7 := ⟨_, rfl⟩
          rw [hw7] at b7 st7'
          have hok : Sm1 (v4 - 128, v6 - 128) := by unfold Sm1; dsimp only; omega
          have HW7 := Lib.hid hw7
          have H7 := Lib.hid (And.intro b7 (And.intro st7' hok))
          clear b5 st5 g6 s6 b6 b7 g7 st7 st7' HP6 cx fx hw7 hok
          go_wp2_with fail
          rw [HW7.out]
          have H := H7.out
          clear H7 HW7 cy fy
          generalize v4 - 128 = x at *
          generalize v6 - 128 = y at *
        case' true =>
          go_wp2_with fail
          obtain ⟨hnb, sa⟩ := HA.out
          rw [HWA.out] at hnb sa ⊢
          have sa' : St w wa b B A z c (m + 6 + 4 * (k + 1)) ps ad cc := ⟨sa.bw, sa.Bb, sa.own, sa.src.mono (by omega), sa.rd, sa.gb, sa.sm⟩
          have hok : Sm1 (32 * (k : Int), 0) := by unfold Sm1; dsimp only; omega
          have H := And.intro hnb (And.intro sa' hok)
          clear HWA HA hnb sa sa' HP4 hok
          generalize wr.heap.size = hx at *
          generalize wa = w7 at *
          generalize 32 * (k : Int) = x at *
          generalize (0 : Int) = y at H
        all_goals
          obtain ⟨hbx, stx, hok⟩ := H
          obtain ⟨cx, cy, fx, fy⟩ := hbx.facts
          have hbx7 := hbx.lt
          clear hbx fx fy
          have HX := Lib.hid (And.intro stx hok)
          have ho := stx.own
          have hw7 := stx.size
          clear stx hok
          have hpl : ps.length + 1 ≤ 17 := by omega
          have q0 : 0 + ps.length ≤ maxLen := by unfold maxLen; omega
          have q1 : (0 + ps.length) * 16 ≤ 140737488355328 := by omega
          have q2 : 0 + ps.length + 1 ≤ maxLen := by unfold maxLen; omega
          have q3 : (0 + ps.length + 1) * 16 ≤ 140737488355328 := by omega
          have hps2 := pcell_snoc ps x y
          rw [List.length_append, List.length_singleton] at hps2
          have HSN := Lib.hid hps2
          clear hps2
          go_region_law (first
            | (refine step_append_own (by rfl) _ _ _ (by rfl) w7.heap.size 96 i0 _ 2 16 Try.underlying73 hi0 hz0 hz1 hz2 rfl Nat.two_pos v8 (0 + ps.length) ([] ++ lst (pcell ps) (ps.length * 2)) (by rfl) (by first | exact hown8.alloc _ | exact hown8) ⟨_, 0, none⟩ 1 1 [.int .i64 x, .int .i64 y] (by rfl) (by rfl) ?_ (one_two x y) q2 q3 (by first | exact hs8 | exact Nat.le_trans hs8 (by simp)) ?_
               first
                 | exact news1 w8 x y
                 | exact fun j u hu => hg8.cell (cell_drew (news2 w7 _ x y j u hu)) (ne_blk _ _ j (by omega))
                 | exact fun j u hu => hg8.cell (cell_drew (cell_past (news1 w7 x y j u hu))) (ne_blk _ _ j (by omega))
               intro v9 w9 hown9 hg9)
            | (refine step_append_own (by rfl) _ _ _ (by rfl) w7.heap.size 96 i0 _ 2 16 Try.underlying73 hi0 hz0 hz1 hz2 rfl Nat.two_pos (.slice (some ⟨_, 0, none⟩) 0 0) 0 [] (by rfl)
                  (by first | exact (lit0 w7 _ (Nat.le_refl _)).drew | exact ((lit0 w7 _ (Nat.le_refl _)).alloc _).drew | exact (lit1 w7 _ _ (Nat.le_refl _)).drew) ad ps.length cc (lst (pcell ps) (ps.length * 2)) (by rfl) (lst_len _ _)
                  (by first | exact news_old (ho.alloc _).drew | exact news_old ((ho.alloc _).alloc _).drew)
                  (one_places ps _) q0 q1 (by first | exact Nat.le_succ _ | exact Nat.le_refl _ | (simp; omega) | simp) ?_
               intro v8 w8 hown8 hg8
               have hs8 : w7.heap.size ≤ w8.heap.size := Nat.le_trans (by first | exact Nat.le_succ _ | (simp; omega) | simp) hg8.size
               have cx8 : w8.cell? ⟨hx, 0, none⟩ = some (.int .i64 x) := hg8.cell (cell_drew (by first | exact cell_past cx | exact cell_past (cell_past cx))) (by rw [own_blk]; intro e; injection e with e; simp at e; omega)
               have cy8 : w8.cell? ⟨hx, 1, none⟩ = some (.int .i64 y) := hg8.cell (cell_drew (by first | exact cell_past cy | exact cell_past (cell_past cy))) (by rw [own_blk]; intro e; injection e with e; simp at e; omega)
               have hb8 : hx < w8.heap.size := Nat.lt_of_lt_of_le hbx7 hs8))
          all_goals
            have st8 := St.away (HX.out.1.grow (by first | exact gb1 w7 _ | exact gb2 w7 _ _)) hg8 (by intro q e; have := own_q e; omega)
            have st9 := St.away (by first | exact st8.grow (World.grownBy_alloc _ _ _) | exact st8) hg9 (fun q e => by have := (hown8.lt q e).1; omega)
            rw [List.nil_append, ← HSN.out, Nat.zero_add] at hown9
            obtain ⟨A9, c9, rfl⟩ := own_form hown9
            have hl1 : (ps ++ [(x, y)]).length = ps.length + 1 := by simp
            have hrd := Rd.of_lst hown9 rfl
            obtain ⟨ad9, rfl, _, _⟩ := hrd.at_ (k := 0) (by omega)
            have hI := is_spec (some ad9) c9 w9.heap.size (ps ++ [(x, y)]) w9 (by rw [hl1]; omega) (by rw [hl1]; exact hrd) (Nat.le_refl _)
            rw [hl1] at hI
            have HI := Lib.hid hI
            have H9 := Lib.hid (And.intro st9 (And.intro hown9 HX.out.2))
            have hlen : ps.length ≤ k := hpk
            clear hI st9 hown9 HX hown8 hg8 hg9 hrd cx8 cy8 st8 cx cy ho HSN hl1
            go_wp2_with fail
            refine HI.out.mono ?_
            rintro e w10 ⟨rfl, g10⟩
            obtain ⟨st9, hown9, hok⟩ := H9.out
            have st10 := st9.grow g10
            have own10 := own_mono (own_kept0 hown9 g10) (show w.heap.size ≤ w7.heap.size from hw7)
            have hl1 : (ps ++ [(x, y)]).length = ps.length + 1 := by simp
            cases hvp : vp (ps ++ [(x, y)])
            · have hq : vp ps = true := by
                rcases HPS.out with ⟨_, rfl⟩ | h
                · rw [List.nil_append, vp_single hok.ok] at hvp
                  cases hvp
                · exact h
              have HST := Lib.hid st10
              clear st9 hown9 hok st10 own10 hvp H9 HI
              go_wp2_with fail
              go_roundw
              case rel => exact ⟨k + 1, ps, ad, cc, by omega, by go_num, rfl, by omega, .inr hq, HST.out⟩
              case measure => simp [intOf]; omega
            · have stn : St w w10 b B A z c (m + 6 + 4 * (k + 1)) (ps ++ [(x, y)]) ad9 c9 := ⟨st10.bw, st10.Bb, by rw [hl1]; exact own10, st10.src, st10.rd, st10.gb, sm_snoc st10.sm hok⟩
              have HST := Lib.hid (And.intro stn hvp)
              clear st9 hown9 hok st10 own10 hvp H9 HI stn
              go_wp2_with fail
              go_roundw
              case rel => exact ⟨k + 1, ps ++ [(x, y)], ad9, c9, by omega, by go_num, by rw [hl1], by rw [hl1]; omega, .inr HST.out.2, HST.out.1⟩
              case measure => simp [intOf]; omega
      · obtain hkk : k = N := by omega
        have hk2 : (N : Int) ≤ k := by omega
        have hv : vp ps = true := by
          rcases hps with ⟨h0, _⟩ | h
          · omega
          · exact h
        have HST := Lib.hid hst
        clear hlt hkk hst
        go_wp2_with fail
        go_ret
        exact ⟨ps, _, _, ⟨hv, HST.out.sm⟩, rfl, HST.out.own, HST.out.gb⟩

end Go.Proofs.Ytbefoiikbbjjfaa.drawOk
