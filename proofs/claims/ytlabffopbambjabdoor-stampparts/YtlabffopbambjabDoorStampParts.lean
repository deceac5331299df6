/- StampParts: for every text and place, how many bytes part two words is no matter, nor which; the text reads as it did; the packages' tables hold what their own text lays. No other condition. -/
import Derived.Test.YtlabffopbambjabDoorCards
import Derived.Test.YtlabffopbambjabDoorTie
import Derived.Test.YtlabffopbambjabDoorStampF
import Derived.Test.YtlabffopbambjabDoorStampL
import Derived.Test.YtlabffopbambjabDoorKit3
import Derived.Test.YtlabffopbambjabDoorOpen
namespace Go.Proofs.YtlabffopbambjabDoor.stampParts
open Go.ChangeShapes Go.WideShapes Go.ChangeAt Go.RowKit
open Go.ChangeMaps (open_string shut_string)
set_option linter.all false

theorem p47 : partU 47 = true := by decide
theorem p45 : partU 45 = true := by decide
theorem p32 : partU 32 = true := by decide
theorem words_same (a b : List UInt8) (h : a = [] ∨ b = [] ∨ (∃ r, b = 32 :: r) ∨ (∃ x, a = x ++ [32])) : wordsL (a ++ 47 :: 45 :: b) = wordsL (a ++ b) := by
  rw [words_two a 47 _ p47, words_part 45 b p45]
  rcases h with rfl | rfl | ⟨r, rfl⟩ | ⟨x, rfl⟩
  · rfl
  · rw [words_nil, List.append_nil, List.append_nil]
  · rw [words_two a 32 r p32, words_part 32 r p32]
  · rw [words_two x 32 [] p32, words_nil, List.append_nil]
    rw [List.append_assoc]
    exact (words_two x 32 b p32).symm
theorem read_same (s t : List UInt8) (hs : t.length = s.length + 2) (hw : wordsL t = wordsL s) : readE t = 2 ∨ (readV t = readV s ∧ readE t = readE s) := by
  by_cases h : t.length ≤ 400
  · right
    have h2 : s.length ≤ 400 := by omega
    unfold readV readE
    rw [if_pos h, if_pos h, if_pos h2, if_pos h2, hw]
    exact ⟨rfl, rfl⟩
  · left
    unfold readE
    rw [if_neg h]
/-- the text with two bytes more -/
def moreT (s : ByteArray) (k : Nat) : ByteArray := s.extract 0 k ++ { data := #[47, 45] } ++ s.extract k s.size
theorem more_list (s : ByteArray) (k : Nat) : (moreT s k).data.toList = s.data.toList.take k ++ 47 :: 45 :: s.data.toList.drop k := by
  unfold moreT
  rw [ByteArray.data_append, Array.toList_append, ByteArray.data_append, Array.toList_append, Lib.extract_data, Lib.extract_to_end]
  simp
theorem more_read (s : ByteArray) (k : Nat) (hk : k ≤ s.size) (h : k = 0 ∨ k = s.size ∨ (∃ h : k < s.size, (s[k].toNat : Int) = 32) ∨ (∃ h : k - 1 < s.size, 0 < k ∧ (s[k - 1].toNat : Int) = 32)) :
    readE (moreT s k).data.toList = 2 ∨ (readV (moreT s k).data.toList = readV s.data.toList ∧ readE (moreT s k).data.toList = readE s.data.toList) := by
  have hl : s.data.toList.length = s.size := rfl
  refine read_same _ _ ?_ ?_
  · rw [more_list]
    simp only [List.length_append, List.length_cons, List.length_take, List.length_drop]
    omega
  · rw [more_list]
    have e : s.data.toList.take k ++ s.data.toList.drop k = s.data.toList := List.take_append_drop _ _
    conv => rhs; rw [← e]
    refine words_same _ _ ?_
    rcases h with rfl | rfl | ⟨h1, h2⟩ | ⟨h1, h0, h2⟩
    · left; simp
    · right; left; exact List.drop_eq_nil_of_le (by omega)
    · right; right; left
      refine ⟨s.data.toList.drop (k + 1), ?_⟩
      have hd := List.drop_eq_getElem_cons (l := s.data.toList) (i := k) (by omega)
      rw [hd]
      congr 1
      exact UInt8.toNat_inj.1 (by have e2 : (32 : UInt8).toNat = 32 := rfl; have e3 : s.data.toList[k].toNat = s[k].toNat := rfl; omega)
    · right; right; right
      refine ⟨s.data.toList.take (k - 1), ?_⟩
      have ht := List.take_succ_eq_append_getElem (l := s.data.toList) (i := k - 1) (by omega)
      rw [show k - 1 + 1 = k by omega] at ht
      rw [ht]
      congr 2
      exact UInt8.toNat_inj.1 (by have e2 : (32 : UInt8).toNat = 32 := rfl; have e3 : s.data.toList[k - 1].toNat = s[k - 1].toNat := rfl; omega)

set_option maxHeartbeats 2000000 in
theorem walk (s : ByteArray) (at0 : Int) (w : World) (hs0 : s.size ≤ 140737488351232) (ha : -9223372036854775808 ≤ at0 ∧ at0 ≤ 9223372036854775807) (T : STabs w) :
    Calls Tryd.prog 8 #[.string s, .int .i64 at0] w fun e w' => e = .returned (.bool true) ∧ Below w.heap.size w w' := by
  have HS : Hid (s.size ≤ maxLen) := by unfold maxLen; show _ ≤ _; omega
  have TH : Hid _ := T
  clear T
  by_cases a0 : at0 < 0
  · skip
    go_enter Tryd.func8, Tryd.ntmps8
    go_wp2_with fail
    refine (sread_any _ _ HS.out TH.out).mono ?_
    rintro e w1 ⟨rfl, g1⟩
    go_wp2_with fail
    refine (stampBegun_any _ (TH.out.below g1 (Nat.le_refl _))).mono ?_
    rintro e w2 ⟨rfl, hb2⟩
    have g2 := next g1 hb2
    clear g1 hb2
    go_wp2_with fail
    go_ret
    exact ⟨rfl, g2⟩
  by_cases a1 : (s.size : Int) < at0
  · skip
    go_enter Tryd.func8, Tryd.ntmps8
    go_wp2_with fail
    refine (sread_any _ _ HS.out TH.out).mono ?_
    rintro e w1 ⟨rfl, g1⟩
    go_wp2_with fail
    refine (stampBegun_any _ (TH.out.below g1 (Nat.le_refl _))).mono ?_
    rintro e w2 ⟨rfl, hb2⟩
    have g2 := next g1 hb2
    clear g1 hb2
    go_wp2_with fail
    go_ret
    exact ⟨rfl, g2⟩
  obtain ⟨k, rfl⟩ : ∃ k : Nat, at0 = k := ⟨at0.toNat, by omega⟩
  have hk : k ≤ s.size := by omega
  have HM : Hid ((moreT s k).size ≤ maxLen) := by
    unfold moreT maxLen
    show _ ≤ _
    simp only [ByteArray.size_append, ByteArray.size_extract]
    have : ({ data := #[47, 45] } : ByteArray).size = 2 := rfl
    omega
  have z2 : ({ data := #[47, 45] } : ByteArray).size ≤ 2 := by decide
  have z3 : (s.extract 0 k).size ≤ s.size := by simp; omega
  have z4 : (s.extract k s.size).size ≤ s.size := by simp
  clear a0 a1 ha
  have MR := more_read s k hk
  by_cases lt : k < s.size
  · by_cases c0 : 0 < k
    · have e1 : ((k : Int) - 1).toNat = k - 1 := by omega
      have e2 : k - 1 < s.size := by omega
      have e3 : (k : Int) - 1 < (s.size : Int) := by omega
      by_cases c1 : (s[k].toNat : Int) = 32
      · have HR : Hid _ := MR (.inr (.inr (.inl ⟨lt, c1⟩)))
        have c1b : ((s[k].toNat : Int) != 32) = false := by rw [c1]; rfl
        clear MR c1
        go_enter Tryd.func8, Tryd.ntmps8
        go_wp2_with fail
        refine (sread_any _ _ HS.out TH.out).mono ?_
        rintro e w1 ⟨rfl, g1⟩
        go_wp2_with fail
        refine (stampBegun_any _ (TH.out.below g1 (Nat.le_refl _))).mono ?_
        rintro e w2 ⟨rfl, hb2⟩
        have g2 := next g1 hb2
        clear g1 hb2
        go_wp2_with fail
        have ne : Nonempty (Ext w2) := ⟨Ext.of w2 (Below.refl _ _)⟩
        obtain ⟨V2, hV2⟩ : ∃ V, readV (moreT s k).data.toList = V := ⟨_, rfl⟩
        obtain ⟨E2, hE2⟩ : ∃ E, readE (moreT s k).data.toList = E := ⟨_, rfl⟩
        have RD : Hid (∀ x : Ext w2, Calls Tryd.prog 14 #[.string (s.extract 0 k ++ { data := #[47, 45] } ++ s.extract k s.size)] x.1 fun e w' => e = .returned (.tuple #[.int .i64 V2, .int .i64 E2]) ∧ Below x.1.heap.size x.1 w') := fun x => by
          have h := sread_any (moreT s k) x.1 HM.out (TH.out.below (next g2 x.2) (Nat.le_refl _))
          rw [hV2, hE2] at h
          exact h
        rw [hV2, hE2] at HR
        clear hV2 hE2
        refine wp_region_ext (by kernel_rfl) (by kernel_rfl) ?_
        repeat (go_big_quiet_step ((go_at_call 14; exact ext_call (RD.out _))))
        refine wpQuiet_nil ?_
        intro w3 hw3
        obtain ⟨x, rfl⟩ := hw3
        obtain ⟨W3, hb3⟩ := x
        try simp only
        rcases HR.out with hr | ⟨hr1, hr2⟩
        · subst hr
          go_wp2_with fail
          go_ret
          exact ⟨rfl, next g2 hb3⟩
        · subst hr1 hr2
          by_cases h2 : readE s.data.toList = 2
          · rw [h2]
            go_wp2_with fail
            go_ret
            exact ⟨rfl, next g2 hb3⟩
          · have h2b : (readE s.data.toList == 2) = false := by rw [beq_eq_false_iff_ne]; exact h2
            clear h2
            go_wp2_with fail
            go_ret
            exact ⟨rfl, next g2 hb3⟩
      · have c1b : ((s[k].toNat : Int) != 32) = true := by rw [bne_iff_ne]; exact c1
        by_cases c2 : (s[k - 1].toNat : Int) = 32
        · have HR : Hid _ := MR (.inr (.inr (.inr ⟨e2, c0, c2⟩)))
          have c2b : ((s[k - 1].toNat : Int) != 32) = false := by rw [c2]; rfl
          clear MR c1 c2
          go_enter Tryd.func8, Tryd.ntmps8
          go_wp2_with fail
          refine (sread_any _ _ HS.out TH.out).mono ?_
          rintro e w1 ⟨rfl, g1⟩
          go_wp2_with fail
          refine (stampBegun_any _ (TH.out.below g1 (Nat.le_refl _))).mono ?_
          rintro e w2 ⟨rfl, hb2⟩
          have g2 := next g1 hb2
          clear g1 hb2
          go_wp2_with fail
          have ne : Nonempty (Ext w2) := ⟨Ext.of w2 (Below.refl _ _)⟩
          obtain ⟨V2, hV2⟩ : ∃ V, readV (moreT s k).data.toList = V := ⟨_, rfl⟩
          obtain ⟨E2, hE2⟩ : ∃ E, readE (moreT s k).data.toList = E := ⟨_, rfl⟩
          have RD : Hid (∀ x : Ext w2, Calls Tryd.prog 14 #[.string (s.extract 0 k ++ { data := #[47, 45] } ++ s.extract k s.size)] x.1 fun e w' => e = .returned (.tuple #[.int .i64 V2, .int .i64 E2]) ∧ Below x.1.heap.size x.1 w') := fun x => by
            have h := sread_any (moreT s k) x.1 HM.out (TH.out.below (next g2 x.2) (Nat.le_refl _))
            rw [hV2, hE2] at h
            exact h
          rw [hV2, hE2] at HR
          clear hV2 hE2
          refine wp_region_ext (by kernel_rfl) (by kernel_rfl) ?_
          repeat (go_big_quiet_step ((go_at_call 14; exact ext_call (RD.out _))))
          refine wpQuiet_nil ?_
          intro w3 hw3
          obtain ⟨x, rfl⟩ := hw3
          obtain ⟨W3, hb3⟩ := x
          try simp only
          rcases HR.out with hr | ⟨hr1, hr2⟩
          · subst hr
            go_wp2_with fail
            go_ret
            exact ⟨rfl, next g2 hb3⟩
          · subst hr1 hr2
            by_cases h2 : readE s.data.toList = 2
            · rw [h2]
              go_wp2_with fail
              go_ret
              exact ⟨rfl, next g2 hb3⟩
            · have h2b : (readE s.data.toList == 2) = false := by rw [beq_eq_false_iff_ne]; exact h2
              clear h2
              go_wp2_with fail
              go_ret
              exact ⟨rfl, next g2 hb3⟩
        · have c2b : ((s[k - 1].toNat : Int) != 32) = true := by rw [bne_iff_ne]; exact c2
          clear MR c1 c2
          go_enter Tryd.func8, Tryd.ntmps8
          go_wp2_with fail
          refine (sread_any _ _ HS.out TH.out).mono ?_
          rintro e w1 ⟨rfl, g1⟩
          go_wp2_with fail
          refine (stampBegun_any _ (TH.out.below g1 (Nat.le_refl _))).mono ?_
          rintro e w2 ⟨rfl, hb2⟩
          have g2 := next g1 hb2
          clear g1 hb2
          go_wp2_with fail
          go_ret
          exact ⟨rfl, g2⟩
    · have HR : Hid _ := MR (.inl (by omega))
      clear MR
      go_enter Tryd.func8, Tryd.ntmps8
      go_wp2_with fail
      refine (sread_any _ _ HS.out TH.out).mono ?_
      rintro e w1 ⟨rfl, g1⟩
      go_wp2_with fail
      refine (stampBegun_any _ (TH.out.below g1 (Nat.le_refl _))).mono ?_
      rintro e w2 ⟨rfl, hb2⟩
      have g2 := next g1 hb2
      clear g1 hb2
      go_wp2_with fail
      have ne : Nonempty (Ext w2) := ⟨Ext.of w2 (Below.refl _ _)⟩
      obtain ⟨V2, hV2⟩ : ∃ V, readV (moreT s k).data.toList = V := ⟨_, rfl⟩
      obtain ⟨E2, hE2⟩ : ∃ E, readE (moreT s k).data.toList = E := ⟨_, rfl⟩
      have RD : Hid (∀ x : Ext w2, Calls Tryd.prog 14 #[.string (s.extract 0 k ++ { data := #[47, 45] } ++ s.extract k s.size)] x.1 fun e w' => e = .returned (.tuple #[.int .i64 V2, .int .i64 E2]) ∧ Below x.1.heap.size x.1 w') := fun x => by
        have h := sread_any (moreT s k) x.1 HM.out (TH.out.below (next g2 x.2) (Nat.le_refl _))
        rw [hV2, hE2] at h
        exact h
      rw [hV2, hE2] at HR
      clear hV2 hE2
      refine wp_region_ext (by kernel_rfl) (by kernel_rfl) ?_
      repeat (go_big_quiet_step ((go_at_call 14; exact ext_call (RD.out _))))
      refine wpQuiet_nil ?_
      intro w3 hw3
      obtain ⟨x, rfl⟩ := hw3
      obtain ⟨W3, hb3⟩ := x
      try simp only
      rcases HR.out with hr | ⟨hr1, hr2⟩
      · subst hr
        go_wp2_with fail
        go_ret
        exact ⟨rfl, next g2 hb3⟩
      · subst hr1 hr2
        by_cases h2 : readE s.data.toList = 2
        · rw [h2]
          go_wp2_with fail
          go_ret
          exact ⟨rfl, next g2 hb3⟩
        · have h2b : (readE s.data.toList == 2) = false := by rw [beq_eq_false_iff_ne]; exact h2
          clear h2
          go_wp2_with fail
          go_ret
          exact ⟨rfl, next g2 hb3⟩
  · have HR : Hid _ := MR (.inr (.inl (by omega)))
    clear MR
    go_enter Tryd.func8, Tryd.ntmps8
    go_wp2_with fail
    refine (sread_any _ _ HS.out TH.out).mono ?_
    rintro e w1 ⟨rfl, g1⟩
    go_wp2_with fail
    refine (stampBegun_any _ (TH.out.below g1 (Nat.le_refl _))).mono ?_
    rintro e w2 ⟨rfl, hb2⟩
    have g2 := next g1 hb2
    clear g1 hb2
    go_wp2_with fail
    have ne : Nonempty (Ext w2) := ⟨Ext.of w2 (Below.refl _ _)⟩
    obtain ⟨V2, hV2⟩ : ∃ V, readV (moreT s k).data.toList = V := ⟨_, rfl⟩
    obtain ⟨E2, hE2⟩ : ∃ E, readE (moreT s k).data.toList = E := ⟨_, rfl⟩
    have RD : Hid (∀ x : Ext w2, Calls Tryd.prog 14 #[.string (s.extract 0 k ++ { data := #[47, 45] } ++ s.extract k s.size)] x.1 fun e w' => e = .returned (.tuple #[.int .i64 V2, .int .i64 E2]) ∧ Below x.1.heap.size x.1 w') := fun x => by
      have h := sread_any (moreT s k) x.1 HM.out (TH.out.below (next g2 x.2) (Nat.le_refl _))
      rw [hV2, hE2] at h
      exact h
    rw [hV2, hE2] at HR
    clear hV2 hE2
    refine wp_region_ext (by kernel_rfl) (by kernel_rfl) ?_
    repeat (go_big_quiet_step ((go_at_call 14; exact ext_call (RD.out _))))
    refine wpQuiet_nil ?_
    intro w3 hw3
    obtain ⟨x, rfl⟩ := hw3
    obtain ⟨W3, hb3⟩ := x
    try simp only
    rcases HR.out with hr | ⟨hr1, hr2⟩
    · subst hr
      go_wp2_with fail
      go_ret
      exact ⟨rfl, next g2 hb3⟩
    · subst hr1 hr2
      by_cases h2 : readE s.data.toList = 2
      · rw [h2]
        go_wp2_with fail
        go_ret
        exact ⟨rfl, next g2 hb3⟩
      · have h2b : (readE s.data.toList == 2) = false := by rw [beq_eq_false_iff_ne]; exact h2
        clear h2
        go_wp2_with fail
        go_ret
        exact ⟨rfl, next g2 hb3⟩

theorem laid_met (os : Os) : laidMet Tryd.prog Rows.stampPartsRow.laid (({ World.holding Tryd.prog os ⟨#[], #[], []⟩ with heap := (((((((World.holding Tryd.prog os ⟨#[], #[], []⟩).heap.modify 0 fun | .cells _ t frozen => .cells #[.int .i64 1601, .int .i64 9999, .int .i64 1, .int .i64 12, .int .i64 1, .int .i64 31, .int .i64 0, .int .i64 23, .int .i64 0, .int .i64 59, .int .i64 0, .int .i64 59] t frozen | o => o).modify 3 fun | .cells _ t frozen => .cells #[.int .i64 31, .int .i64 28, .int .i64 31, .int .i64 30, .int .i64 31, .int .i64 30, .int .i64 31, .int .i64 31, .int .i64 30, .int .i64 31, .int .i64 30, .int .i64 31] t frozen | o => o).modify 4 fun | .cells _ t frozen => .cells #[.int .i64 400, .int .i64 146097, .int .i64 20, .int .i64 100, .int .i64 36524, .int .i64 3, .int .i64 4, .int .i64 1461, .int .i64 24, .int .i64 1, .int .i64 365, .int .i64 3] t frozen | o => o).modify 5 fun | .cells _ t frozen => .cells #[.int .i32 9, .int .i32 9, .int .i32 32, .int .i32 47, .int .i32 59, .int .i32 64, .int .i32 91, .int .i32 96, .int .i32 123, .int .i32 126] t frozen | o => o).modify 2 fun | .cells _ t frozen => .cells #[.string ⟨#[83, 117, 110]⟩, .string ⟨#[77, 111, 110]⟩, .string ⟨#[84, 117, 101]⟩, .string ⟨#[87, 101, 100]⟩, .string ⟨#[84, 104, 117]⟩, .string ⟨#[70, 114, 105]⟩, .string ⟨#[83, 97, 116]⟩] t frozen | o => o).modify 1 fun | .cells _ t frozen => .cells #[.string ⟨#[74, 97, 110]⟩, .string ⟨#[70, 101, 98]⟩, .string ⟨#[77, 97, 114]⟩, .string ⟨#[65, 112, 114]⟩, .string ⟨#[77, 97, 121]⟩, .string ⟨#[74, 117, 110]⟩, .string ⟨#[74, 117, 108]⟩, .string ⟨#[65, 117, 103]⟩, .string ⟨#[83, 101, 112]⟩, .string ⟨#[79, 99, 116]⟩, .string ⟨#[78, 111, 118]⟩, .string ⟨#[68, 101, 99]⟩] t frozen | o => o) } : World).forCall (fun _ _ => 0) ⟨#[], #[.string ByteArray.empty, .int .i64 0], []⟩).memory :=
  laidMet_of_run' 8 (by kernel_rfl) (by kernel_rfl)
theorem reads (os : Os) {H : Type} (enc : TypeId × Value → H) : ∃ places, DataW.whole enc Tryd.prog (({ World.holding Tryd.prog os ⟨#[], #[], []⟩ with heap := (((((((World.holding Tryd.prog os ⟨#[], #[], []⟩).heap.modify 0 fun | .cells _ t frozen => .cells #[.int .i64 1601, .int .i64 9999, .int .i64 1, .int .i64 12, .int .i64 1, .int .i64 31, .int .i64 0, .int .i64 23, .int .i64 0, .int .i64 59, .int .i64 0, .int .i64 59] t frozen | o => o).modify 3 fun | .cells _ t frozen => .cells #[.int .i64 31, .int .i64 28, .int .i64 31, .int .i64 30, .int .i64 31, .int .i64 30, .int .i64 31, .int .i64 31, .int .i64 30, .int .i64 31, .int .i64 30, .int .i64 31] t frozen | o => o).modify 4 fun | .cells _ t frozen => .cells #[.int .i64 400, .int .i64 146097, .int .i64 20, .int .i64 100, .int .i64 36524, .int .i64 3, .int .i64 4, .int .i64 1461, .int .i64 24, .int .i64 1, .int .i64 365, .int .i64 3] t frozen | o => o).modify 5 fun | .cells _ t frozen => .cells #[.int .i32 9, .int .i32 9, .int .i32 32, .int .i32 47, .int .i32 59, .int .i32 64, .int .i32 91, .int .i32 96, .int .i32 123, .int .i32 126] t frozen | o => o).modify 2 fun | .cells _ t frozen => .cells #[.string ⟨#[83, 117, 110]⟩, .string ⟨#[77, 111, 110]⟩, .string ⟨#[84, 117, 101]⟩, .string ⟨#[87, 101, 100]⟩, .string ⟨#[84, 104, 117]⟩, .string ⟨#[70, 114, 105]⟩, .string ⟨#[83, 97, 116]⟩] t frozen | o => o).modify 1 fun | .cells _ t frozen => .cells #[.string ⟨#[74, 97, 110]⟩, .string ⟨#[70, 101, 98]⟩, .string ⟨#[77, 97, 114]⟩, .string ⟨#[65, 112, 114]⟩, .string ⟨#[77, 97, 121]⟩, .string ⟨#[74, 117, 110]⟩, .string ⟨#[74, 117, 108]⟩, .string ⟨#[65, 117, 103]⟩, .string ⟨#[83, 101, 112]⟩, .string ⟨#[79, 99, 116]⟩, .string ⟨#[78, 111, 118]⟩, .string ⟨#[68, 101, 99]⟩] t frozen | o => o) } : World).forCall (fun _ _ => 0) ⟨#[], #[.string ByteArray.empty, .int .i64 0], []⟩).memory Tryd.f8.params.toList Rows.stampPartsSpec.vars false (#[.string ByteArray.empty, .int .i64 0] : Array Value).toList 8 = some ([.lit (.string []), .lit (.int .i64 0)], [], places) :=
  ⟨[], by kernel_rfl⟩
set_option maxRecDepth 100000 in
theorem contract (H : Type) (enc : TypeId × Value → H) (W : World) (base : Nat) (args : Array Value) (ds gs : List (DataW H)) (before : List MemPlace)
    (hval0 : ∀ (j : Nat) t v, Tryd.f8.params[j]? = some t → args[j]? = some v → Value.okWide Tryd.prog W .any base t v)
    (hW : DataW.Whole enc Tryd.prog Tryd.f8.params.toList Rows.stampPartsSpec.vars false W args.toList ds gs before) (hL : laidMetH Tryd.prog Rows.stampPartsRow.laid W) (hsz : (DataW.weightsEach Tryd.prog (Tryd.f8.params.toList ++ Rows.stampPartsSpec.plain.varTypes Tryd.prog) (ds ++ gs)).all (· ≤ reachBytes) = true) :
    Calls Tryd.prog 8 args W fun e W' => ∃ v, e = .returned v ∧ Rows.stampPartsSpec.post enc Tryd.prog Tryd.f8 false true false false W args v W' := by
  have hval : ∀ (j : Nat) t v, Tryd.f8.params[j]? = some t → args[j]? = some v → Value.okWide Tryd.prog W .any base t v := hval0
  have hW' := hW
  obtain ⟨p, q, hA0, hV, rfl, hfz, hnd⟩ := hW
  have hA : DataW.TrodAll enc Tryd.prog W 0 (fun _ => true) true Tryd.f8.params.toList args.toList ds p := hA0
  rw [Tryd.params8] at hA hval hsz
  obtain ⟨v0, vs0, d0, ds0, p0, q0, hargs, rfl, rfl, h0, r0⟩ := trodAll_cons hA
  obtain ⟨v1, vs1, d1, ds1, p1, q1, rfl, rfl, rfl, h1, r1⟩ := trodAll_cons r0
  obtain ⟨rfl, rfl, rfl⟩ := trodAll_nil r1
  obtain rfl : args = #[v0, v1] := by cases args; simp_all
  obtain ⟨rfl, rfl⟩ := trodVars_none hV
  have k0 := h0
  have lt0 : ∀ x ∈ p0, x.block < W.heap.size := by obtain ⟨m, hm⟩ := k0; exact DataW.trod_lt m _ _ _ hm
  have k1 := h1
  have lt1 : ∀ x ∈ p1, x.block < W.heap.size := by obtain ⟨m, hm⟩ := k1; exact DataW.trod_lt m _ _ _ hm
  obtain ⟨a0, rfl, rfl, hp0, w0⟩ := open_string Tryd.underlying9 (hval 0 9 v0 rfl rfl) h0
  have z0 : a0.size ≤ 140737488351232 := sized_string hsz (j := 0) (t := 9) rfl rfl
  obtain ⟨x1, rfl, rfl, hp1, w1⟩ := open_int Tryd.underlying3 (hval 1 3 v1 rfl rfl) h1
  have b1 := i64_of w1
  clear hA0 hval0
  refine (walk a0 x1 W z0 b1 (stabs_of hL)).mono fun e W' ⟨he, bel⟩ => ?_
  subst he
  exact ⟨_, rfl, _, _, _, [], _, [], hW', trodAll_mk1 (shut_bool Tryd.underlying4 _), (trodAll_cons_mk (Below.trod laidOut (by kernel_rfl) (of_decide_eq_true (by kernel_rfl)) k0 bel lt0) (trodAll_cons_mk (Below.trod laidOut (by kernel_rfl) (of_decide_eq_true (by kernel_rfl)) k1 bel lt1) trodAll_mk0)), rfl, bel.frame _, fun h => by cases h⟩
set_option maxRecDepth 100000 in
theorem lifted (os : Os) (started : os.Started) (H : Type) (enc : TypeId × Value → H) (F : Stop.Interp) :
    ReturnsInHanded {} Tryd.checked os 8 .any ((OpenSpec.ofChange Rows.stampPartsSpec).preRow enc Tryd.prog Tryd.f8 Rows.stampPartsRow.domain false Rows.stampPartsRow.laid) (((OpenSpec.ofChange Rows.stampPartsSpec).at F).post enc Tryd.prog Tryd.f8 false true false false) := by
  obtain ⟨places, hx⟩ := reads os enc
  refine returnsInHanded_of_row (C := Tryd.checked) (s := (OpenSpec.ofChange Rows.stampPartsSpec)) own started (by kernel_rfl) Tryd.func8
    (witness_row_at (enc := enc) (C := Tryd.checked) false ({ World.holding Tryd.prog os ⟨#[], #[], []⟩ with heap := (((((((World.holding Tryd.prog os ⟨#[], #[], []⟩).heap.modify 0 fun | .cells _ t frozen => .cells #[.int .i64 1601, .int .i64 9999, .int .i64 1, .int .i64 12, .int .i64 1, .int .i64 31, .int .i64 0, .int .i64 23, .int .i64 0, .int .i64 59, .int .i64 0, .int .i64 59] t frozen | o => o).modify 3 fun | .cells _ t frozen => .cells #[.int .i64 31, .int .i64 28, .int .i64 31, .int .i64 30, .int .i64 31, .int .i64 30, .int .i64 31, .int .i64 31, .int .i64 30, .int .i64 31, .int .i64 30, .int .i64 31] t frozen | o => o).modify 4 fun | .cells _ t frozen => .cells #[.int .i64 400, .int .i64 146097, .int .i64 20, .int .i64 100, .int .i64 36524, .int .i64 3, .int .i64 4, .int .i64 1461, .int .i64 24, .int .i64 1, .int .i64 365, .int .i64 3] t frozen | o => o).modify 5 fun | .cells _ t frozen => .cells #[.int .i32 9, .int .i32 9, .int .i32 32, .int .i32 47, .int .i32 59, .int .i32 64, .int .i32 91, .int .i32 96, .int .i32 123, .int .i32 126] t frozen | o => o).modify 2 fun | .cells _ t frozen => .cells #[.string ⟨#[83, 117, 110]⟩, .string ⟨#[77, 111, 110]⟩, .string ⟨#[84, 117, 101]⟩, .string ⟨#[87, 101, 100]⟩, .string ⟨#[84, 104, 117]⟩, .string ⟨#[70, 114, 105]⟩, .string ⟨#[83, 97, 116]⟩] t frozen | o => o).modify 1 fun | .cells _ t frozen => .cells #[.string ⟨#[74, 97, 110]⟩, .string ⟨#[70, 101, 98]⟩, .string ⟨#[77, 97, 114]⟩, .string ⟨#[65, 112, 114]⟩, .string ⟨#[77, 97, 121]⟩, .string ⟨#[74, 117, 110]⟩, .string ⟨#[74, 117, 108]⟩, .string ⟨#[65, 117, 103]⟩, .string ⟨#[83, 101, 112]⟩, .string ⟨#[79, 99, 116]⟩, .string ⟨#[78, 111, 118]⟩, .string ⟨#[68, 101, 99]⟩] t frozen | o => o) } : World) #[.string ByteArray.empty, .int .i64 0] rfl (by kernel_rfl) (by kernel_rfl) (by kernel_rfl)
      (OpenSpec.preRow_of_cond 8 hx (by kernel_rfl) (fun k hk => by cases hk) (by kernel_rfl) (laid_met os))) ?_
  intro W base args ds gs before hval hW _ _ hsz hL _ _
  exact contract H enc W base args ds gs before hval hW hL hsz
theorem said : Rows.StampPartsSaid :=
  OpenClaim.holds_of_cond 8 Tryd.f8 rfl rfl rfl rfl rfl rfl rfl ⟨rfl, rfl, rfl, rfl, rfl⟩ rfl rfl rfl rfl rfl (by kernel_rfl) Tryd.func8 (by kernel_rfl)
    (of_decide_eq_true (by kernel_rfl)) (by unfold Func.isWrapper; first | (rw [if_pos (by decide +kernel)]; kernel_rfl) | (rw [if_neg (by decide +kernel)]; exact ⟨rfl, rfl⟩))
    (fun os started H enc _ F => by rw [OpenClaim.pre_eq_preRow]; exact lifted os started H enc F)
theorem plain (f : FuncId) (fn : Func) (hf : Tryd.pinned.checked.prog.funcNamed "gingersnap/gingersnaplaw.StampParts" = some f) (hfn : Tryd.pinned.checked.prog.funcs[f]? = some fn) :
    false = Tryd.pinned.checked.prog.looks [] ∧ ∀ (j : Nat) t, fn.params[j]? = some t → Tryd.pinned.checked.prog.wantsStandIn t = false := by
  obtain rfl : f = 8 := Option.some.inj ((show Tryd.prog.funcNamed "gingersnap/gingersnaplaw.StampParts" = some 8 by kernel_rfl).symm.trans hf) |>.symm
  obtain rfl : fn = Tryd.f8 := (Option.some.inj (Tryd.func8.symm.trans hfn)).symm
  refine ⟨by kernel_rfl, fun j t ht => ?_⟩
  rw [Tryd.params8] at ht
  have ht2 := Array.mem_of_getElem? ht
  have ht3 : t = 3 ∨ t = 9 := by simp at ht2; first | exact ht2 | exact ht2.symm | (rcases ht2 with h | h <;> simp [h]) | (rcases ht2 with h | h | h <;> simp [h])
  rcases ht3 with rfl | rfl
  · exact (show Tryd.prog.wantsStandIn 3 = false by kernel_rfl)
  · exact (show Tryd.prog.wantsStandIn 9 = false by kernel_rfl)
theorem card : Rows.StampPartsCardSaid :=
  Claim7.holds_tied_plain_at .later [] _ _ _ _ said (fun _ h => by cases h) (by kernel_rfl) (fun _ h => by cases h) stampParts_row_tie rfl ⟨rfl, rfl⟩ (by kernel_rfl) rfl plain (by kernel_rfl)
#print axioms card
end Go.Proofs.YtlabffopbambjabDoor.stampParts
