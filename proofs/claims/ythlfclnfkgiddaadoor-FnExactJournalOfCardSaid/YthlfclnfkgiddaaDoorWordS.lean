/- Words of bytes and their numbers, by the model. -/
import Derived.Test.YthlfclnfkgiddaaDoorRows
import Derived.Test.YthlfclnfkgiddaaDoorSlc
import Derived.Test.YthlfclnfkgiddaaDoorSmall
import Derived.Test.YthlfclnfkgiddaaDoorWordN
import Derived.Test.YthlfclnfkgiddaaDoorNumN
import Derived.WalkKit
import Derived.ProofKit
import Derived.OpenShut
import Derived.ShutString
import Derived.ChangeOld
import Derived.Below
import Derived.Lib.Hide
import Derived.BigQuiet
import Derived.Deep.QuietTactic
import Derived.WalkLawsBesides
import Derived.Outline
import Derived.Deep.QuietTactic
import Derived.BigQuiet
import Derived.Deep.LoopGhost
import Derived.Deep.RegionWith
import Derived.Deep.RegionHeld3
namespace Go.Proofs.YthlfclnfkgiddaaDoor.wordS
open Go.ChangeShapes Go.WideShapes Go.ChangeAt Go.RowKit
open Go.ChangeMaps (open_string shut_string)
set_option linter.unusedVariables false
open Go Go.RowKit
open Go.Proofs.YthlfclnfkgiddaaDoor.slc Go.Proofs.YthlfclnfkgiddaaDoor.small Go.Proofs.YthlfclnfkgiddaaDoor.wordN Go.Proofs.YthlfclnfkgiddaaDoor.numN

/-- append, a shift and a conjunction, told apart: the walk is not to lay them open. -/
def appS (ats : Array TypeId) (ty : TypeId) (args : Array Value) : Sem Value := Builtin.append_ ats ty args
theorem app_stop (ats : Array TypeId) (ty : TypeId) (args : Array Value) : Builtin.append_ ats ty args = appS ats ty args := rfl
def shrS (t : TypeId) (x y : Value) : Sem Value := binOp .shr t x y
theorem shr_stop (t : TypeId) (x y : Value) : binOp .shr t x y = shrS t x y := rfl
def shlS (t : TypeId) (x y : Value) : Sem Value := binOp .shl t x y
theorem shl_stop (t : TypeId) (x y : Value) : binOp .shl t x y = shlS t x y := rfl
def toS (s d : TypeId) (v : Value) : Sem Value := convert s d v
theorem row_slice {W : World} {base : Nat} {e : TypeId} {size : Nat} {v : Value} {k : Nat} {xs : List Value} (h : W.ownsRow base e size v k xs) : ∃ A c, v = .slice A k c := by
  rcases h.2 with ⟨rfl, rfl⟩ | ⟨g, cap, _, rfl, _⟩
  · exact ⟨_, _, rfl⟩
  · exact ⟨_, _, rfl⟩
theorem info8 : (Tryd.prog.info? 5).map (fun i => (i.zero, i.size, i.bytes)) = some (some (.int .u8 0), 1, 1) := by kernel_rfl
theorem gb_new2 {a b c : World} {row r2 : Option Nat} (h : a.grownBy b row) (k : b.grownBy c r2) (hr : ∀ g, r2 = some g → a.heap.size ≤ g) : a.grownBy c row :=
  ⟨k.os.trans h.os, k.tape.trans h.tape, k.output.trans h.output, Nat.le_trans h.size k.size, fun i hi hne =>
    (k.block i (Nat.lt_of_lt_of_le hi h.size) (fun e => by have := hr i e.symm; omega)).trans (h.block i hi hne)⟩
theorem u8_one (L : List UInt8) : ∀ u ∈ u8s L, u.oneCell' = true := fun u hu => by
  obtain ⟨x, _, rfl⟩ := List.mem_map.1 hu
  rfl
/-- An append of bytes that lie there to a row of the call's own. -/
theorem app8 {base : Nat} {W : World} {v : Value} {n : Nat} {xs : List UInt8} (news : List UInt8) (ad : Addr) (m cc : Nat) (i0 : TypeInfo) (hi0 : Tryd.prog.info? 5 = some i0) (hz0 : i0.zero = some (.int .u8 0)) (hz1 : i0.size = 1) (hz2 : i0.bytes = 1)
    (hown : W.ownsRow base 5 1 v n (u8s xs)) (hl : news.length = m) (hc : ∀ j u, (u8s news)[j]? = some u → W.cell? (ad.add j) = some u) (hn : n + m < 100000) (hb : base ≤ W.heap.size) :
    ∃ A6 c6 w6, (appS #[22, 22] 22 #[v, .slice (some ad) m cc]).run Tryd.prog W = .ok (.slice A6 (n + m) c6) w6 ∧
      w6.ownsRow base 5 1 (.slice A6 (n + m) c6) (n + m) (u8s (xs ++ news)) ∧ W.grownBy w6 v.ownBlock := by
  obtain ⟨v6, w6, hrun, r1, r2, _⟩ := run_append_own (P := Tryd.prog) W base 22 22 5 i0 (.int .u8 0) 1 1 Tryd.underlying22 hi0 hz0 hz1 hz2 rfl (by decide) _ _ _ hown ad m cc (u8s news) (by rw [u8s_len, hl, Nat.mul_one]) hc (u8_one news) (by unfold maxLen; omega) (by omega) hb
  obtain ⟨A6, c6, rfl⟩ := row_slice r1
  rw [← u8s_app] at r1
  exact ⟨A6, c6, w6, hrun, r1, r2⟩
/-- A byte more, out of a literal's block. -/
theorem app8_one {base : Nat} {W : World} {v : Value} {n : Nat} {xs : List UInt8} (c : UInt8) (i0 : TypeInfo) (hi0 : Tryd.prog.info? 5 = some i0) (hz0 : i0.zero = some (.int .u8 0)) (hz1 : i0.size = 1) (hz2 : i0.bytes = 1)
    (hown : W.ownsRow base 5 1 v n (u8s xs)) (hn : n < 10000) (hb : base ≤ W.heap.size) :
    ∃ A6 c6 w6, (appS #[22, 22] 22 #[v, .slice (some ⟨W.heap.size, 0, none⟩) 1 1]).run Tryd.prog (W.alloc (.cells #[.int .u8 (c.toNat : Int)] 5)) = .ok (.slice A6 (n + 1) c6) w6 ∧
      w6.ownsRow base 5 1 (.slice A6 (n + 1) c6) (n + 1) (u8s (xs ++ [c])) ∧ (W.alloc (.cells #[.int .u8 (c.toNat : Int)] 5)).grownBy w6 v.ownBlock := by
  obtain ⟨A6, c6, w6, h1, h2, h3⟩ := app8 [c] ⟨W.heap.size, 0, none⟩ 1 1 i0 hi0 hz0 hz1 hz2 (hown.alloc (.cells #[.int .u8 (c.toNat : Int)] 5)) rfl (World.news_of_block (cs := #[.int .u8 (c.toNat : Int)]) (t := 5) (fr := (0, 0)) (heap_alloc_new W _)) (by omega) (by simp; omega)
  exact ⟨A6, c6, w6, h1, h2, h3⟩
theorem run_shr (w : World) (t : TypeId) (n k q : Nat) (hq : n / 256 ^ k = q) (hk : k ≤ 7) : (shrS t (.int .i64 (n : Int)) (.int .u64 (8 * (k : Int)))).run Tryd.prog w = .ok (.int .i64 (q : Int)) w := by
  subst hq
  show (Op.shift .shr .i64 (n : Int) .u64 (8 * (k : Int))).run Tryd.prog w = _
  rw [shift_shr_any _ _ _ _ (by omega)]
  have e1 : min (8 * (k : Int)).toNat IntKind.i64.bits = 8 * k := by show min _ 64 = _; omega
  rw [e1]
  have e2 : (n : Int) / 2 ^ (8 * k) = ((n / 256 ^ k : Nat) : Int) := by
    rw [show (2 : Int) ^ (8 * k) = ((256 ^ k : Nat) : Int) by rw [show 256 = 2 ^ 8 from rfl, ← Nat.pow_mul]; simp]
    simp
  rw [e2]
  rfl
/-- A text out of a row of bytes. -/
theorem str_of {w : World} {base n c : Nat} {A : Option Addr} {L : List UInt8} (h : w.ownsRow base 5 1 (.slice A n c) n (u8s L)) (hn : 0 < n) : (convert 22 9 (.slice A n c)).run Tryd.prog w = .ok (.string (bs L)) w := by
  rw [run_convert_bytes_string w 22 9 5 A n c Tryd.underlying22 Tryd.underlying5 Tryd.underlying9]
  obtain ⟨g, cap, hv, _, _⟩ := h.form hn
  obtain rfl : A = some ⟨g, 0, none⟩ := by injection hv
  have hl : L.length = n := by have := h.1; rw [u8s_len, Nat.mul_one] at this; exact this
  have hlc := run_loadCells_list (P := Tryd.prog) (w := w) ⟨g, 0, none⟩ (u8s L) (fun j v hj => h.cells (g := g) rfl j v hj)
  rw [u8s_len, hl] at hlc
  rw [run_bytesToString w ⟨g, 0, none⟩ n c (L.map fun x => (x.toNat : Int)) (by rw [hlc]; unfold u8s; rw [List.map_map]; rfl), fold_bs]
section
attribute [local go_sem ↓] app_stop shr_stop
set_option maxHeartbeats 1000000 in
set_option maxRecDepth 100000 in
theorem word_s (n m : Nat) (w : World) (hn : n < 4294967296) (hm1 : 1 ≤ m) (hm : m ≤ 4) :
    Calls Tryd.prog 153 #[.int .i64 (n : Int), .int .i64 (m : Int)] w fun e w' => e = .returned (.string (bs (wb n m))) ∧ w.grownBy w' none := by
  obtain ⟨i0, hi0, hz0, hz1, hz2⟩ := info_parts info8
  have hd0 := World.ownsRow_lit (base := w.heap.size) (e := 5) (size := 1) w #[] 0 (Nat.le_refl _) (Nat.zero_le _) rfl
  have hg0 := World.grownBy_alloc w (.cells #[] 5) none
  have H0 := Lib.hid (And.intro hd0 hg0)
  clear hd0 hg0
  go_enter Tryd.func153, Tryd.ntmps153
  go_wp2_with fail
  go_loopw [5, 6] (fun v i wr => ∃ k : Nat, k ≤ m ∧ i = .int .i64 k ∧ (∃ A c, v = .slice A k c ∧ wr.ownsRow w.heap.size 5 1 (.slice A k c) k (u8s (wb n k))) ∧ w.grownBy wr none) (fun _ i _ => m - (intOf i).toNat)
  case atStart => exact ⟨0, Nat.zero_le _, rfl, ⟨_, _, rfl, H0.out.1⟩, H0.out.2⟩
  case round =>
    obtain ⟨k, hk, rfl, ⟨A, c, rfl, hown⟩, hg⟩ := hrel
    by_cases hlt : k < m
    · obtain ⟨q, hq⟩ : ∃ q, n / 256 ^ k = q := ⟨_, rfl⟩
      have hqn : q ≤ n := by rw [← hq]; exact Nat.div_le_self _ _
      have hsh := fun w => run_shr w 2 n k q hq (by omega)
      have hand := and255 q (by omega)
      have hsz := hg.size
      obtain ⟨A6, c6, w6, hrun, z1, z2⟩ := app8_one (UInt8.ofNat q) i0 hi0 hz0 hz1 hz2 hown (by omega) hsz
      rw [ofNat_toNat] at hrun z2
      rw [← hq, ← wb_snoc] at z1
      have HZ := Lib.hid (And.intro z1 (gb_new (hg.trans (World.grownBy_alloc _ _ none)) (show (wr.alloc _).grownBy w6 _ from z2) (fun g e => (hown.lt g e).1)))
      have r0 := Nat.mod_lt q (show 0 < 256 by omega)
      have HQ := Lib.hid hq
      clear z1 z2 hown hg hq
      generalize q % 256 = r at *
      have k0 : (0 : Int) ≤ (k : Int) := by omega
      have k1 : (k : Int) < (m : Int) := by omega
      have w8 : IntKind.i64.wrap (8 * (k : Int)) = 8 * (k : Int) := by rw [IntKind.wrap_i64]; omega
      have w8' : IntKind.u64.wrap (8 * (k : Int)) = 8 * (k : Int) := by rw [IntKind.wrap_u64]; omega
      have wr8 : IntKind.u8.wrap (r : Int) = (r : Int) := by rw [IntKind.wrap_u8]; omega
      go_wp2_with fail
      exact ⟨⟨k + 1, by omega, by go_num, ⟨A6, c6, rfl, HZ.out.1⟩, HZ.out.2⟩, by simp [intOf]; omega⟩
    · obtain rfl : k = m := by omega
      have hst := str_of hown (by omega)
      have HG := Lib.hid hg
      clear hown hg
      go_wp2_with fail
      exact bodyPost_ret (v := .string (bs (wb n k))) (by simp [results, Tryd.results153, go_sem]) rfl ⟨rfl, HG.out⟩
end
theorem run_shl8 (w : World) (t : TypeId) (x : Nat) (hx : x < 2 ^ 30) : (shlS t (.int .i64 (x : Int)) (.int .u64 8)).run Tryd.prog w = .ok (.int .i64 ((x * 256 : Nat) : Int)) w := by
  show (Op.shift .shl .i64 (x : Int) .u64 8).run Tryd.prog w = _
  rw [shift_shl_any _ _ _ _ (by omega)]
  show (pure (Value.int .i64 (IntKind.i64.wrap ((x : Int) * 256))) : Sem Value).run Tryd.prog w = _
  rw [show IntKind.i64.wrap ((x : Int) * 256) = ((x * 256 : Nat) : Int) by rw [IntKind.wrap_i64]; omega]
  rfl
theorem at_byte (s : ByteArray) (k : Nat) (h : k < s.size) : s[k].toNat = at8 s.data.toList k := by
  have h' : k < s.data.toList.length := by simpa using h
  unfold at8
  simp only [List.getD, List.getElem?_eq_getElem h']
  rfl
section
attribute [local go_sem ↓] shl_stop
set_option maxHeartbeats 1000000 in
set_option maxRecDepth 100000 in
theorem number_s (s : ByteArray) (a : Nat) (w : World) (ha : a + 4 ≤ s.size) (hs : s.size ≤ 1099511627776) :
    Calls Tryd.prog 127 #[.string s, .int .i64 (a : Int)] w fun e w' => e = .returned (.int .i64 (n4 s.data.toList a : Nat)) ∧ w = w' := by
  go_enter Tryd.func127, Tryd.ntmps127
  go_wp2_with fail
  go_loopw [5, 6] (fun v i wr => ∃ (x : Int) (k : Nat), i = .int .i64 x ∧ x = (k : Int) - 1 ∧ k ≤ 4 ∧ v = .int .i64 (nf s.data.toList a (4 - k) : Nat) ∧ w = wr) (fun _ i _ => (intOf i + 1).toNat)
  case atStart => exact ⟨3, 4, rfl, rfl, Nat.le_refl _, rfl, rfl⟩
  case round =>
    obtain ⟨x, k, rfl, hx, hk, rfl, rfl⟩ := hrel
    cases k with
    | zero =>
      have hx0 : x < 0 := by omega
      have hx1 : ¬ 0 ≤ x := by omega
      clear hx
      go_wp2_with fail
      exact bodyPost_ret (v := .int .i64 (nf s.data.toList a (4 - 0) : Nat)) (by simp [results, Tryd.results127, go_sem]) rfl ⟨rfl, rfl⟩
    | succ j =>
      obtain rfl : x = (j : Int) := by omega
      obtain ⟨p, hp⟩ : ∃ p, a + j = p := ⟨_, rfl⟩
      have hj : p < s.size := by omega
      have hb := at_byte s p hj
      have hlt := nf_lt s.data.toList a (4 - (j + 1))
      have hlt2 : nf s.data.toList a (4 - (j + 1)) < 256 ^ 3 := Nat.lt_of_lt_of_le hlt (Nat.pow_le_pow_right (by omega) (by omega))
      have hstep : nf s.data.toList a (4 - j) = nf s.data.toList a (4 - (j + 1)) * 256 + at8 s.data.toList p := by
        rw [show 4 - j = (4 - (j + 1)) + 1 by omega]
        show nf s.data.toList a (4 - (j + 1)) * 256 + at8 s.data.toList (a + (3 - (4 - (j + 1)))) = _
        rw [show 3 - (4 - (j + 1)) = j by omega, hp]
      have hor := or_low (nf s.data.toList a (4 - (j + 1))) (at8 s.data.toList p) (by omega) (at8_lt _ _)
      have hsh := fun w => run_shl8 w 2 (nf s.data.toList a (4 - (j + 1))) (by omega)
      have hb8 := at8_lt s.data.toList p
      obtain ⟨V, hV⟩ : ∃ V, nf s.data.toList a (4 - (j + 1)) * 256 + at8 s.data.toList p = V := ⟨_, rfl⟩
      have HS := Lib.hid (show nf s.data.toList a (4 - j) = V by rw [hstep, hV])
      rw [hV] at hor
      clear hstep hlt hx hV
      generalize nf s.data.toList a (4 - (j + 1)) = N at *
      rw [← hb] at hor hb8
      rw [show ((N * 256 : Nat) : Int) = (N : Int) * 256 by simp] at hor
      have j0 : (0 : Int) ≤ (j : Int) := by omega
      have aj : (a : Int) + (j : Int) = (p : Int) := by omega
      have wj : IntKind.i64.wrap ((a : Int) + (j : Int)) = (p : Int) := by rw [IntKind.wrap_i64]; omega
      have wj2 : IntKind.i64.wrap (p : Int) = (p : Int) := by rw [IntKind.wrap_i64]; omega
      have HJ := Lib.hid hk
      clear hp hk ha hlt2 hb
      go_wp2_with fail
      exact ⟨⟨(j : Int) - 1, j, rfl, rfl, by have := HJ.out; omega, by rw [HS.out], trivial⟩, by simp only [intOf]; omega⟩
end

end Go.Proofs.YthlfclnfkgiddaaDoor.wordS
