/- The contract of Read of package sixty. -/
import Derived.Test.YtgdcifllbfdbhaaSixtyC
import Derived.Test.YtgdcifllbfdbhaaShelfB
namespace Go.Proofs.Ytgdcifllbfdbhaa
open Go.RowKit Go.Lib
set_option linter.all false
set_option maxRecDepth 100000

theorem builderAt_below {T e : TypeId} {B b B' : Nat} {p : Value} {bs : List Value} {w w' : World} (h : BuilderAt T e B b p bs w) (hb : Below B' w w') (hB : w.heap.size ≤ B') : BuilderAt T e B b p bs w' := by
  have hlt := h.lt
  obtain ⟨h1, v, h2, h3, h4⟩ := h
  exact ⟨h1, v, (hb.block b (by omega)).trans h2, own_below h3 hb hB, h4⟩
theorem builder_below {T e : TypeId} {B b B' : Nat} {bs : List Value} {w w' : World} (h : IsBuilder T e B b bs w) (hb : Below B' w w') (hB : w.heap.size ≤ B') : IsBuilder T e B b bs w' :=
  h.imp (fun h => builderAt_below h hb hB) (fun h => builderAt_below h hb hB)
theorem uOk_four (g : List UInt8) (h : g.length = 4) : uOk g = true := by
  unfold uOk
  rw [List.drop_eq_nil_of_le (by rw [uB_length, h]; decide)]; rfl
theorem uE_no (x : List UInt8) (h : alone x = false ∨ x.length % 4 = 1) : uE x = 1 ∧ uT x = [] := by
  have h1 : uE x = 1 := by unfold uE; rw [if_pos h]
  exact ⟨h1, by unfold uT; rw [if_neg (by rw [h1]; decide)]⟩
theorem uE_many (x : List UInt8) (h : ¬ (alone x = false ∨ x.length % 4 = 1)) (hm : 400 < uM x.length) : uE x = 2 ∧ uT x = [] := by
  have h1 : uE x = 2 := by unfold uE; rw [if_neg h, if_pos hm]
  exact ⟨h1, by unfold uT; rw [if_neg (by rw [h1]; decide)]⟩
theorem uE_last (x : List UInt8) (h : ¬ (alone x = false ∨ x.length % 4 = 1)) (hm : ¬ 400 < uM x.length) (ho : uOk x = false) : uE x = 1 ∧ uT x = [] := by
  have h1 : uE x = 1 := by unfold uE; rw [if_neg h, if_neg hm, if_neg (by rw [ho]; decide)]
  exact ⟨h1, by unfold uT; rw [if_neg (by rw [h1]; decide)]⟩
theorem uE_yes (x : List UInt8) (h : ¬ (alone x = false ∨ x.length % 4 = 1)) (hm : ¬ 400 < uM x.length) (ho : uOk x = true) : uE x = 0 ∧ uT x = uL x := by
  have h1 : uE x = 0 := by unfold uE; rw [if_neg h, if_neg hm, if_pos ho]
  exact ⟨h1, by unfold uT; rw [if_pos h1]⟩
set_option maxHeartbeats 1000000 in
theorem sixtyR_any (x : List UInt8) (w : World) (hx : x.length ≤ 140737488351232) :
    Calls Try.prog 11 #[.string (txt x)] w fun e w' => e = .returned (.tuple #[.string (txt (uT x)), .int .i64 (uE x)]) ∧ Below w.heap.size w w' := by
  obtain ⟨T, hT⟩ : ∃ T, T = txt x := ⟨_, rfl⟩
  obtain ⟨n, hn⟩ : ∃ n, n = x.length := ⟨_, rfl⟩
  have hsz : T.size = n := by rw [hT, hn]; rfl
  have hnl : n ≤ 140737488351232 := by omega
  obtain ⟨a, ha⟩ : ∃ a, a = alone x := ⟨_, rfl⟩
  have KA : Hid (∀ w', Calls Try.prog 24 #[.string T] w' fun e w'' => e = .returned (.bool a) ∧ w'' = w') := fun w' => by
    rw [ha, hT]; exact alone_any (txt x) w' (by rw [txt_size]; unfold maxLen; omega)
  have HX : Hid _ := hT
  have HN : Hid _ := hn
  have HA : Hid _ := ha
  have d1 : IntKind.i64.wrap ((n : Int) * 6) = (n : Int) * 6 := IntWalk.i64_in _ (by omega)
  rw [← hT]
  clear hT hn ha hx
  cases a
  · obtain ⟨k1, k2⟩ := uE_no x (.inl HA.out.symm)
    rw [k1, k2]
    go_enter Try.func11, Try.ntmps11
    go_wp2_with fail
    refine (KA.out _).mono ?_
    rintro e w' ⟨rfl, rfl⟩
    go_wp2_with fail
    exact bodyPost_ret (v := .tuple #[.string ⟨#[]⟩, .int .i64 1]) (by simp [results, Try.results11, go_sem]) rfl ⟨rfl, Below.refl _ _⟩
  obtain ⟨r, hr⟩ : ∃ r, r = n % 4 := ⟨_, rfl⟩
  have d2 : (n : Int).tmod 4 = (r : Int) := by rw [Int.tmod_eq_emod_of_nonneg (by omega)]; omega
  have d2' : (n : Int) % 4 = (r : Int) := by omega
  by_cases h4 : r = 1
  · obtain ⟨k1, k2⟩ := uE_no x (.inr (by rw [← HN.out]; omega))
    rw [k1, k2]
    subst h4
    clear hr
    go_enter Try.func11, Try.ntmps11
    go_wp2_with fail
    refine (KA.out _).mono ?_
    rintro e w' ⟨rfl, rfl⟩
    go_wp2_with fail
    exact bodyPost_ret (v := .tuple #[.string ⟨#[]⟩, .int .i64 1]) (by simp [results, Try.results11, go_sem]) rfl ⟨rfl, Below.refl _ _⟩
  have hr1 : ((r : Int) == 1) = false := by rw [beq_eq_false_iff_ne]; omega
  have HG : Hid (¬ (alone x = false ∨ x.length % 4 = 1)) := by
    rintro (h | h)
    · rw [← HA.out] at h; cases h
    · rw [← HN.out] at h; omega
  obtain ⟨q, hq⟩ : ∃ q, q = 6 * n / 8 := ⟨_, rfl⟩
  have d3 : ((n : Int) * 6).tdiv 8 = (q : Int) := by rw [Int.tdiv_eq_ediv_of_nonneg (by omega)]; omega
  have d3' : ((n : Int) * 6) / 8 = (q : Int) := by omega
  have HQ : Hid (uM x.length = q) := by show _ = _; rw [← HN.out, hq]; rfl
  by_cases h400 : 400 < q
  · obtain ⟨k1, k2⟩ := uE_many x HG.out (by rw [HQ.out]; exact h400)
    rw [k1, k2]
    have h400' : (400 : Int) < (q : Int) := by omega
    clear hr hq
    go_enter Try.func11, Try.ntmps11
    go_wp2_with fail
    refine (KA.out _).mono ?_
    rintro e w' ⟨rfl, rfl⟩
    go_wp2_with fail
    exact bodyPost_ret (v := .tuple #[.string ⟨#[]⟩, .int .i64 2]) (by simp [results, Try.results11, go_sem]) rfl ⟨rfl, Below.refl _ _⟩
  have h400' : (q : Int) ≤ 400 := by omega
  have HM : Hid (¬ 400 < uM x.length) := by show ¬ _; rw [HQ.out]; exact h400
  have hn600 : n ≤ 536 := by omega
  have HR4 : Hid (n % 4 ≠ 1) := by show _ ≠ _; omega
  obtain ⟨B, hB⟩ : ∃ B, B = w.heap.size := ⟨_, rfl⟩
  have HBD : Hid (IsBuilder 46 5 B B (bcells []) (w.alloc (.cells #[.pointer none, .slice none 0 0] 46))) := by rw [hB]; exact fresh_isBuilder _ _ w
  have HBL : Hid (Below w.heap.size w (w.alloc (.cells #[.pointer none, .slice none 0 0] 46))) := (Below.refl _ w).alloc (Nat.le_refl _) _
  have HBB : Hid _ := hB
  have HAL : Hid (∀ c ∈ x, lnum c < 64) := fun c hc => by
    have := List.all_eq_true.1 HA.out.symm c hc
    simpa using this
  clear hr hq h400
  go_enter Try.func11, Try.ntmps11
  go_wp2_with fail
  refine (KA.out _).mono ?_
  rintro e w' ⟨rfl, hw'⟩
  rw [hw']
  clear hw' w'
  go_wp2_with fail
  rw [← hB]
  clear hB
  go_loopw [0] (fun s wr => ∃ k : Nat, k ≤ n ∧ Hid (k % 4 = 0 ∨ k = n) ∧ s = .string (txt (x.drop k)) ∧ Hid (IsBuilder 46 5 B B (bcells (uL (x.take k))) wr) ∧ Hid (uOk (x.take k) = true) ∧ Hid (Below w.heap.size w wr)) (fun s _ => strLen s)
  case atStart => exact ⟨0, Nat.zero_le _, .inl rfl, by rw [List.drop_zero, HX.out], by rw [List.take_zero]; exact HBD.out, by rw [List.take_zero]; rfl, HBL.out⟩
  case round =>
    obtain ⟨k, hk, hk4, rfl, hbd, hok, hb⟩ := hrel
    obtain ⟨R, hR⟩ : ∃ R, R = txt (x.drop k) := ⟨_, rfl⟩
    by_cases hlt : k < n
    · obtain ⟨r2, hr2⟩ : ∃ r, r = n - k := ⟨_, rfl⟩
      have hrs : R.size = r2 := by rw [hR, txt_size, List.length_drop, hr2, HN.out]
      obtain ⟨m, hm⟩ : ∃ m, m = min r2 4 := ⟨_, rfl⟩
      have hk4' : k % 4 = 0 := by have := hk4.out; omega
      have hm1 : 2 ≤ m := by
        have h5 := HR4.out
        rcases (by omega : r2 = 1 ∨ 2 ≤ r2) with h6 | h6
        · exact absurd (by omega) h5
        · omega
      have hm3 : m ≤ 4 := by omega
      have hmr : m ≤ r2 := by omega
      have hmin : min (r2 : Int) 4 = (m : Int) := by omega
      obtain ⟨g, hg⟩ : ∃ g, g = (x.drop k).take m := ⟨_, rfl⟩
      have hgl : g.length = m := by rw [hg, List.length_take, List.length_drop, ← HN.out]; omega
      have hex : R.extract 0 m = txt g := by rw [ext_to, hR, hg]; rfl
      have HRX : Hid (R.extract m r2 = txt (x.drop (k + m))) := by show _ = _; rw [← hrs, ext_from, hR, txt_toList, List.drop_drop]
      have hne : (R.toList == []) = false := by
        rw [hR, Lib.toList_data, beq_eq_false_iff_ne, txt_toList]
        intro h0
        have := congrArg List.length h0
        rw [List.length_drop, ← HN.out] at this
        simp at this; omega
      have hxk : x.take (k + m) = x.take k ++ g := by rw [hg, List.take_add]
      have hlk : (x.take k).length % 4 = 0 := by rw [List.length_take, ← HN.out]; omega
      have HTK : Hid (uL (x.take (k + m)) = uL (x.take k) ++ uL g) := by show _ = _; rw [hxk, uL_append _ _ hlk]
      have HOK : Hid (uOk (x.take (k + m)) = uOk g) := by show _ = _; rw [hxk, uOk_append _ _ hlk]
      have HKM : Hid ((k + m) % 4 = 0 ∨ k + m = n) := by show _ ∨ _; omega
      have HKN : Hid (k + m ≤ n) := by show _ ≤ _; omega
      have HUL : Hid ((uL (x.take k)).length ≤ 402 ∧ (uL g).length ≤ 3) := by
        refine ⟨?_, ?_⟩
        · rw [uL_length, List.length_take]; unfold uM; omega
        · rw [uL_length]; unfold uM; omega
      have HRS : Hid ((txt (x.drop (k + m))).size = r2 - m) := by show _ = _; rw [txt_size, List.length_drop, ← HN.out]; omega
      have HNIL : Hid (m = r2 → ByteArray.empty = txt (x.drop (k + m))) := fun h => by rw [List.drop_eq_nil_of_le (by rw [← HN.out]; omega)]; rfl
      have HBAD : Hid (uOk g = false → uOk x = false) := fun h => by
        have h5 : g.length ≠ 4 := fun h6 => by rw [uOk_four g h6] at h; cases h
        have h6 : k + m = n := by omega
        rw [← HOK.out, h6, List.take_of_length_le (by rw [← HN.out]; omega)] at h
        exact h
      have KG : Hid (∀ w', Calls Try.prog 25 #[.string (txt g)] w' fun e w'' => e = .returned (.tuple #[.string (txt (uL g)), .bool (uOk g)]) ∧ Below w'.heap.size w' w'') := fun w' =>
        groupOf_any g w' (by omega) (by omega) (fun c hc => HAL.out c (by rw [hg] at hc; exact List.mem_of_mem_drop (List.mem_of_mem_take hc)))
      rw [← hR]
      clear hR hr2 hm hg hgl hk hlt hxk hlk hk4 hk4'
      cases ho : uOk g
      · rw [ho] at KG
        have HK : Hid _ := uE_last x HG.out HM.out (HBAD.out ho)
        clear ho
        all_goals
          go_wp2_with fail
          refine (KG.out _).mono ?_
          rintro e w1 ⟨rfl, hb1⟩
          have HB1 : Hid (Below w.heap.size w w1) := next hb.out hb1
          clear hb1
          go_wp2_with fail
          exact bodyPost_ret (v := .tuple #[.string ⟨#[]⟩, .int .i64 1]) (by simp [results, Try.results11, go_sem]) rfl ⟨by rw [HK.out.1, HK.out.2]; rfl, HB1.out⟩
      · rw [ho] at KG
        have HO : Hid _ := ho
        clear ho
        all_goals
          go_wp2_with fail
          refine (KG.out _).mono ?_
          rintro e w1 ⟨rfl, hb1⟩
          have HB1 : Hid (Below w.heap.size w w1) := next hb.out hb1
          have HD1 : Hid _ := builder_below hbd.out hb1 (Nat.le_refl _)
          clear hb1 hbd
          go_wp2_with fail
          refine (Try.Builder_WriteString B B _ _ _ HD1.out (by have := HUL.out; rw [bcells_length, txt_size]; omega) (by have := HB1.out.size; have := HBB.out; omega)).mono ?_
          rintro e w2 ⟨rfl, hbd2, hb2⟩
          have HD2 : Hid (IsBuilder 46 5 B B (bcells (uL (x.take (k + m)))) w2) := by
            rw [HTK.out, bcells_append]; exact Or.inr hbd2
          have HB2 : Hid (Below w.heap.size w w2) := HB1.out.trans (hb2.mono (Nat.le_of_eq HBB.out.symm))
          clear hbd2 hb2
          go_wp2_with fail
          go_roundw
          case rel => exact ⟨_, HKN.out, HKM.out, by first | rw [HRX.out] | rw [HNIL.out trivial], HD2, by rw [HOK.out]; exact HO.out, HB2⟩
          case measure => first | (rw [HRX.out]; simp [strLen, hrs, HRS.out]; omega) | (simp [strLen, hrs]; omega)
    · have hkn : k = n := by omega
      have hR0 : (R.toList == []) = true := by rw [hR, List.drop_eq_nil_of_le (by rw [← HN.out]; omega), Lib.toList_data]; rfl
      have htk : x.take k = x := List.take_of_length_le (by rw [← HN.out]; omega)
      rw [htk] at hbd hok
      have HK : Hid _ := uE_yes x HG.out HM.out hok.out
      rw [← hR]
      clear htk hkn hR hk4 hk hlt
      go_wp2_with fail
      refine (Try.Builder_String_any B B (uL x) _ hbd.out (by have := hb.out.size; have := HBB.out; omega)).mono ?_
      rintro e w1 ⟨rfl, hb1⟩
      have HB1 : Hid (Below w.heap.size w w1) := hb.out.trans (hb1.mono (Nat.le_of_eq HBB.out.symm))
      clear hb1
      go_wp2_with fail
      exact bodyPost_ret (v := .tuple #[.string (txt (uL x)), .int .i64 0]) (by simp [results, Try.results11, go_sem]; rfl) rfl ⟨(by rw [HK.out.1, HK.out.2]), HB1.out⟩
end Go.Proofs.Ytgdcifllbfdbhaa
