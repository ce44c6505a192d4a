/- ReadDecimal, by the model and by the program. -/
import Derived.Test.YthlfclnfkgiddaaDoorRows
import Derived.Test.YthlfclnfkgiddaaDoorSlc
import Derived.Test.YthlfclnfkgiddaaDoorSmall
import Derived.Test.YthlfclnfkgiddaaDoorListI
import Derived.Test.YthlfclnfkgiddaaDoorDecNum
import Derived.Test.YthlfclnfkgiddaaDoorDec
import Derived.Test.YthlfclnfkgiddaaDoorFmt
import Derived.Test.YthlfclnfkgiddaaDoorDecI
import Derived.Test.YthlfclnfkgiddaaDoorTextNum
import Derived.Test.YthlfclnfkgiddaaDoorItemC
import Derived.Test.YthlfclnfkgiddaaDoorReadNum
import Derived.Test.YthlfclnfkgiddaaDoorParseLaid
import Derived.WalkKit
import Derived.ProofKit
import Derived.OpenShut
import Derived.ShutString
import Derived.ChangeOld
import Derived.Below
import Derived.Lib.Hide
import Derived.BigQuiet
import Derived.Deep.QuietTactic
import Derived.WalkLawsBesides
import Derived.Outline
import Derived.Deep.LoopGhost
import Derived.Deep.QuietTactic
import Derived.BigQuiet
import Derived.Lib.SmallJoins
import Derived.Stop.LaidErr
import Derived.Lib.AtoiErrMem
namespace Go.Proofs.YthlfclnfkgiddaaDoor.read
open Go.ChangeShapes Go.WideShapes Go.ChangeAt Go.RowKit
open Go.ChangeMaps (open_string shut_string)
set_option linter.unusedVariables false
open Go Go.RowKit
open Go.Proofs.YthlfclnfkgiddaaDoor.slc Go.Proofs.YthlfclnfkgiddaaDoor.small Go.Proofs.YthlfclnfkgiddaaDoor.dec Go.Proofs.YthlfclnfkgiddaaDoor.decI Go.Proofs.YthlfclnfkgiddaaDoor.textNum Go.Proofs.YthlfclnfkgiddaaDoor.readNum Go.Proofs.YthlfclnfkgiddaaDoor.parseLaid Go.Proofs.YthlfclnfkgiddaaDoor.itemC

theorem s_take (s : ByteArray) (k : Nat) (h : k < s.size) : s.data.toList.take (k + 1) = s.data.toList.take k ++ [s[k]] := by
  rw [List.take_succ_eq_append_getElem (by simpa using h)]; rfl
theorem s_of (s : ByteArray) (l : List UInt8) (h : l = s.data.toList) : (⟨l.toArray⟩ : ByteArray) = s := by subst h; simp
theorem s_ne (s : ByteArray) (l : List UInt8) (h : l ≠ s.data.toList) : (⟨l.toArray⟩ : ByteArray) ≠ s := fun e => h (by rw [← e])

theorem not_lt48 {c : Int} (h : ¬ c < 48) : 48 ≤ c := by omega
set_option maxHeartbeats 1000000 in
set_option maxRecDepth 100000 in
theorem val_spec (s : ByteArray) (w : World) (hs : s.size ≤ 9223372036854775806) :
    Calls Tryd.prog 121 #[.string s] w fun e w' => e = .returned (.tuple #[.int .i64 (readT s.data.toList).1, .bool (readT s.data.toList).2]) ∧ w.grownBy w' none := by
  have hsz : s.data.toList.length = s.size := by simp
  obtain ⟨r0, b0, hT0⟩ : ∃ r b, readT s.data.toList = (r, b) := ⟨_, _, rfl⟩
  rw [hT0]
  by_cases h : 1 ≤ s.size ∧ s.size ≤ 17
  · have h1' : (1 : Int) ≤ s.size := by omega
    have h2' : (s.size : Int) ≤ 17 := by omega
    have HT := Lib.hid hT0
    clear hT0 hsz
    go_enter Tryd.func121, Tryd.ntmps121
    go_wp2_with fail
    go_loopw [4, 5] (fun n i wr => ∃ k : Nat, k ≤ s.size ∧ i = .int .i64 k ∧ n = .int .i64 (sv 0 (s.data.toList.take k) : Nat) ∧ w.grownBy wr none) (fun _ i _ => s.size - (intOf i).toNat)
    case atStart => exact ⟨0, Nat.zero_le _, rfl, rfl, World.grownBy.refl _ _⟩
    case round =>
      obtain ⟨k, hk, rfl, rfl, hg⟩ := hrel
      have hb := sv_lt (s.data.toList.take k)
      have hb2 : sv 0 (s.data.toList.take k) < 10 ^ 17 := Nat.lt_of_lt_of_le hb (Nat.pow_le_pow_right (by omega) (by rw [List.length_take]; omega))
      have hb3 : ((sv 0 (s.data.toList.take k) : Nat) : Int) < 100000000000000000 := by omega
      have hb4 : (0 : Int) ≤ (sv 0 (s.data.toList.take k) : Nat) := by omega
      clear hb hb2
      by_cases hlt : k < s.size
      · have hsn := sv_snoc 0 (s.data.toList.take k) s[k]
        rw [← s_take s k hlt] at hsn
        have HS := Lib.hid hsn
        clear hsn
        generalize sv 0 (s.data.toList.take k) = V at *
        generalize hvv : ((V : Nat) : Int) = v at hb3 hb4 ⊢
        have HV := Lib.hid hvv
        clear hvv
        by_cases c1 : (s[k].toNat : Int) < 48
        · go_wp2
          go_roundw
          case rel => exact ⟨k + 1, by omega, by go_num, by rw [HS.out, if_neg (by omega), HV.out], hg⟩
          case measure => simp [intOf]; omega
        · by_cases c2 : 57 < (s[k].toNat : Int)
          · have hc3 := not_lt48 c1
            clear c1
            go_wp2
            go_roundw
            case rel => exact ⟨k + 1, by omega, by go_num, by rw [HS.out, if_neg (by omega), HV.out], hg⟩
            case measure => simp [intOf]; omega
          · go_wp2
            go_roundw
            case rel => exact ⟨k + 1, by omega, by go_num, congrArg (Value.int .i64) (by have hv := HV.out; rw [HS.out, if_pos (by omega)]; omega), hg⟩
            case measure => simp [intOf]; omega
      · obtain rfl : k = s.size := by omega
        have hfull : s.data.toList.take s.size = s.data.toList := List.take_of_length_le (by simp)
        rw [hfull] at hb3 hb4 ⊢
        have hhead : s.data.toList.head? = some 45 ↔ ((s[0]'(by omega)).toNat : Int) = 45 := by
          have e : s.data.toList.head? = some (s[0]'(by omega)) := by
            rw [List.head?_eq_getElem?]
            rw [List.getElem?_eq_getElem (by simp; omega)]
            rfl
          rw [e, Option.some.injEq]
          constructor
          · intro q; rw [q]; rfl
          · intro q; exact UInt8.toNat.inj (by show (s[0]'(by omega)).toNat = 45; omega)
        have h0s : 0 < s.size := by omega
        clear hfull
        by_cases h45 : ((s[0]'(by omega)).toNat : Int) = 45
        · have hmv : mv_ s.data.toList = -(sv 0 s.data.toList : Int) := by unfold mv_; rw [if_pos (hhead.2 h45)]
          have hcmp : (((s[0]'(by omega)).toNat : Int) == 45) = true := by simpa using h45
          clear hhead h45
          generalize hV : (sv 0 s.data.toList : Nat) = V at *
          have hv1 : -100000000000000000 ≤ -(V : Int) := by omega
          have hv2 : -(V : Int) ≤ 0 := by omega
          have HMV := Lib.hid hmv
          clear hmv hV
          cases ho : okN (-(V : Int))
          · have hno := okN_no ho
            have hR : readT s.data.toList = (0, false) := by unfold readT; rw [HMV.out, ho, if_neg (by simp)]
            obtain ⟨rfl, rfl⟩ : r0 = 0 ∧ b0 = false := by rw [HT.out] at hR; injection hR with a b; exact ⟨a, b⟩
            clear HT hR ho
            go_wp2_with fail
            refine (in_no _ _ _ _ hno).mono ?_
            rintro e w' ⟨rfl, rfl⟩
            go_wp2_with fail
            go_ret2
            exact ⟨rfl, hg⟩
          · obtain ⟨y1, y2⟩ := okN_yes ho
            have hd := fun w => dec_spec (-(V : Int)) w (by omega) (by omega)
            by_cases heq : Lib.itoa (-(V : Int)) = s.data.toList
            · have hR : readT s.data.toList = (-(V : Int), true) := readT_is ho heq
              obtain ⟨rfl, rfl⟩ : r0 = -(V : Int) ∧ b0 = true := by rw [HT.out] at hR; injection hR with a b; exact ⟨a, b⟩
              rw [s_of s _ heq] at hd
              have HD := Lib.hid hd
              clear HT hR ho hd heq
              go_wp2_with fail
              refine (in_yes _ _ _ _ y1 y2).mono ?_
              rintro e w' ⟨rfl, rfl⟩
              go_wp2_with fail
              refine (HD.out _).mono ?_
              rintro e w2 ⟨rfl, hg2⟩
              go_wp2_with fail
              go_ret2
              exact ⟨rfl, hg.trans hg2⟩
            · have hR : readT s.data.toList = (0, false) := by unfold readT; rw [HMV.out, if_neg (fun q => heq q.2)]
              obtain ⟨rfl, rfl⟩ : r0 = 0 ∧ b0 = false := by rw [HT.out] at hR; injection hR with a b; exact ⟨a, b⟩
              have hne' : ((ByteArray.mk (Lib.itoa (-(V : Int))).toArray).toList == s.toList) = false := by rw [ByteArray.toList_mk, ByteArray.toList_eq, beq_eq_false_iff_ne]; exact heq
              generalize (ByteArray.mk (Lib.itoa (-(V : Int))).toArray) = T at hd hne'
              have HD := Lib.hid hd
              clear HT hR ho hd heq
              go_wp2_with fail
              refine (in_yes _ _ _ _ y1 y2).mono ?_
              rintro e w' ⟨rfl, rfl⟩
              go_wp2_with fail
              refine (HD.out _).mono ?_
              rintro e w2 ⟨rfl, hg2⟩
              go_wp2_with fail
              go_ret2
              exact ⟨rfl, hg.trans hg2⟩
        · have hmv : mv_ s.data.toList = (sv 0 s.data.toList : Int) := by unfold mv_; rw [if_neg (fun q => h45 (hhead.1 q))]
          have hcmp : (((s[0]'(by omega)).toNat : Int) == 45) = false := by simpa using h45
          clear hhead h45
          generalize hV : (sv 0 s.data.toList : Nat) = V at *
          have HMV := Lib.hid hmv
          clear hmv hV
          cases ho : okN ((V : Int))
          · have hno := okN_no ho
            have hR : readT s.data.toList = (0, false) := by unfold readT; rw [HMV.out, ho, if_neg (by simp)]
            obtain ⟨rfl, rfl⟩ : r0 = 0 ∧ b0 = false := by rw [HT.out] at hR; injection hR with a b; exact ⟨a, b⟩
            clear HT hR ho
            go_wp2_with fail
            refine (in_no _ _ _ _ hno).mono ?_
            rintro e w' ⟨rfl, rfl⟩
            go_wp2_with fail
            go_ret2
            exact ⟨rfl, hg⟩
          · obtain ⟨y1, y2⟩ := okN_yes ho
            have hd := fun w => dec_spec ((V : Int)) w (by omega) (by omega)
            by_cases heq : Lib.itoa ((V : Int)) = s.data.toList
            · have hR : readT s.data.toList = ((V : Int), true) := readT_is ho heq
              obtain ⟨rfl, rfl⟩ : r0 = (V : Int) ∧ b0 = true := by rw [HT.out] at hR; injection hR with a b; exact ⟨a, b⟩
              rw [s_of s _ heq] at hd
              have HD := Lib.hid hd
              clear HT hR ho hd heq
              go_wp2_with fail
              refine (in_yes _ _ _ _ y1 y2).mono ?_
              rintro e w' ⟨rfl, rfl⟩
              go_wp2_with fail
              refine (HD.out _).mono ?_
              rintro e w2 ⟨rfl, hg2⟩
              go_wp2_with fail
              go_ret2
              exact ⟨rfl, hg.trans hg2⟩
            · have hR : readT s.data.toList = (0, false) := by unfold readT; rw [HMV.out, if_neg (fun q => heq q.2)]
              obtain ⟨rfl, rfl⟩ : r0 = 0 ∧ b0 = false := by rw [HT.out] at hR; injection hR with a b; exact ⟨a, b⟩
              have hne' : ((ByteArray.mk (Lib.itoa ((V : Int))).toArray).toList == s.toList) = false := by rw [ByteArray.toList_mk, ByteArray.toList_eq, beq_eq_false_iff_ne]; exact heq
              generalize (ByteArray.mk (Lib.itoa ((V : Int))).toArray) = T at hd hne'
              have HD := Lib.hid hd
              clear HT hR ho hd heq
              go_wp2_with fail
              refine (in_yes _ _ _ _ y1 y2).mono ?_
              rintro e w' ⟨rfl, rfl⟩
              go_wp2_with fail
              refine (HD.out _).mono ?_
              rintro e w2 ⟨rfl, hg2⟩
              go_wp2_with fail
              go_ret2
              exact ⟨rfl, hg.trans hg2⟩
  · rw [readT_long (by omega)] at hT0
    injection hT0 with h1 h2
    subst h1 h2
    by_cases h3 : s.size < 1
    · have h3' : (s.size : Int) < 1 := by omega
      go_enter Tryd.func121, Tryd.ntmps121
      go_wp2_with fail
      go_ret2
      exact ⟨rfl, World.grownBy.refl _ _⟩
    · have h3' : (1 : Int) ≤ s.size := by omega
      have h4' : (17 : Int) < s.size := by omega
      go_enter Tryd.func121, Tryd.ntmps121
      go_wp2_with fail
      go_ret2
      exact ⟨rfl, World.grownBy.refl _ _⟩

def ErrW (w : World) : Prop := (∃ tp p, w.var? Tryd.prog "strconv.ErrSyntax" = some #[.iface tp p]) ∧ (∃ tp p, w.var? Tryd.prog "strconv.ErrRange" = some #[.iface tp p])
theorem ErrW.kept {w w' : World} (h : ErrW w) (hg : w.grownBy w' none) : ErrW w' := by
  obtain ⟨⟨a, b, h1⟩, ⟨c, d, h2⟩⟩ := h
  exact ⟨⟨a, b, var_below (fun k hk => hg.block k hk (by simp)) h1⟩, ⟨c, d, var_below (fun k hk => hg.block k hk (by simp)) h2⟩⟩

set_option maxHeartbeats 1000000 in
set_option maxRecDepth 100000 in
theorem read_impl (s : ByteArray) (w : World) (hs : s.size ≤ 281474976710656) (ht : TabW w) (he : ErrW w) :
    Calls Tryd.prog 79 #[.string s] w fun e w' => e = .returned (.tuple #[.int .i64 (readT s.data.toList).1, .bool (readT s.data.toList).2]) ∧ w.grownBy w' none := by
  obtain ⟨⟨t1, p1, hv1⟩, ⟨t2, p2, hv2⟩⟩ := he
  cases hp : Lib.parseIntB 64 s.data.toList with
  | «syntax» =>
    rw [readT_pi (by rw [hp]; intro v e; cases e)]
    have hc := strconv_ParseInt_10_at64_syntax_var s hs hp t1 p1 w hv1
    have HC := Lib.hid hc
    clear hc hv1 hv2 hp
    go_enter Tryd.func79, Tryd.ntmps79
    go_wp2_with fail
    refine HC.out.mono ?_
    rintro e w1 ⟨N, rfl, _, _, hb⟩
    go_wp2_with fail
    go_ret2
    exact ⟨rfl, gb_of_below hb⟩
  | range =>
    rw [readT_pi (by rw [hp]; intro v e; cases e)]
    have hc := strconv_ParseInt_10_at64_range_var s hs hp t2 p2 w hv2
    generalize Lib.intSat 64 s.data.toList = q at hc
    have HC := Lib.hid hc
    clear hc hv1 hv2 hp
    go_enter Tryd.func79, Tryd.ntmps79
    go_wp2_with fail
    refine HC.out.mono ?_
    rintro e w1 ⟨N, rfl, _, _, hb⟩
    go_wp2_with fail
    go_ret2
    exact ⟨rfl, gb_of_below hb⟩
  | ok v =>
    have hbd := pi_bound hp
    have hc : Calls Tryd.prog 124 #[.string s, .int .i64 10, .int .i64 64] w fun e w' => e = .returned (.tuple #[.int .i64 v, .nilIface]) ∧ w.grownBy w' none :=
      (strconv_ParseInt_10_at64_ok s (by omega) v hp w).mono fun e w' ⟨h1, h2⟩ => ⟨h1, by
        rcases h2 with rfl | ⟨t, rfl⟩
        · exact World.grownBy.refl _ _
        · exact gb_of_below (Lib.bytesWorld_below w _ t)⟩
    have HC := Lib.hid hc
    cases ho : okN v
    · rw [readT_ok hp (fun q => by rw [ho] at q; cases q.1)]
      have hno := okN_no ho
      clear hc hv1 hv2 hp ho hbd
      go_enter Tryd.func79, Tryd.ntmps79
      go_wp2_with fail
      refine HC.out.mono ?_
      rintro e w1 ⟨rfl, hg1⟩
      go_wp2_with fail
      refine (item_no _ _ hno).mono ?_
      rintro e w' ⟨rfl, rfl⟩
      go_wp2_with fail
      go_ret2
      exact ⟨rfl, hg1⟩
    · obtain ⟨y1, y2⟩ := okN_yes ho
      have hd := fun w ht => dec_impl v w (by omega) (by omega) ht
      by_cases heq : Lib.itoa v = s.data.toList
      · rw [readT_is ho heq]
        rw [s_of s _ heq] at hd
        have HD := Lib.hid hd
        clear hc hv1 hv2 hp ho hbd hd heq
        go_enter Tryd.func79, Tryd.ntmps79
        go_wp2_with fail
        refine HC.out.mono ?_
        rintro e w1 ⟨rfl, hg1⟩
        go_wp2_with fail
        refine (item_yes _ _ y1 y2).mono ?_
        rintro e w' ⟨rfl, rfl⟩
        go_wp2_with fail
        refine (HD.out _ (ht.kept hg1)).mono ?_
        rintro e w2 ⟨rfl, hg2⟩
        go_wp2_with fail
        go_ret2
        exact ⟨rfl, hg1.trans hg2⟩
      · rw [readT_ok hp (fun q => heq q.2)]
        have hne' : ((ByteArray.mk (Lib.itoa v).toArray).toList == s.toList) = false := by rw [ByteArray.toList_mk, ByteArray.toList_eq, beq_eq_false_iff_ne]; exact heq
        generalize (ByteArray.mk (Lib.itoa v).toArray) = T at hd hne'
        have HD := Lib.hid hd
        clear hc hv1 hv2 hp ho hbd hd heq
        go_enter Tryd.func79, Tryd.ntmps79
        go_wp2_with fail
        refine HC.out.mono ?_
        rintro e w1 ⟨rfl, hg1⟩
        go_wp2_with fail
        refine (item_yes _ _ y1 y2).mono ?_
        rintro e w' ⟨rfl, rfl⟩
        go_wp2_with fail
        refine (HD.out _ (ht.kept hg1)).mono ?_
        rintro e w2 ⟨rfl, hg2⟩
        go_wp2_with fail
        go_ret2
        exact ⟨rfl, hg1.trans hg2⟩

theorem readS : True := trivial

end Go.Proofs.YthlfclnfkgiddaaDoor.read
