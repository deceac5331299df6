/- LineBack, where what comes in is of bulk at most 1048576: what is sent tells names and values as they were, if none has a sign that parts; what came in reads as it did. (Beyond that bound what is sent may take more bytes than any slice.) -/
import Derived.Test.YtoppjfambomdmaaLineG
import Derived.Test.YtoppjfambomdmaaOpenL
namespace Go.Proofs.Ytoppjfambomdmaa.lineBack
open Go.ChangeShapes Go.WideShapes Go.ChangeAt Go.RowKit
open Go.ChangeMaps (open_string shut_string)
set_option linter.all false
set_option maxRecDepth 100000

structure Good (c : Ck) : Prop where
  ne : c.name ≠ []
  n1 : ∀ b ∈ c.name, b ≠ 59
  n2 : ∀ b ∈ c.name, b ≠ 61
  v1 : ∀ b ∈ c.value, b ≠ 59
def nvL (l : List Ck) : List Pr := l.map fun c => (c.name, c.value)
theorem wr_join : ∀ l : List Ck, l ≠ [] → 32 :: wrL l = joinL (l.map fun c => 32 :: oneL c) 59
  | [], h => absurd rfl h
  | [c], _ => by
    show 32 :: oneL c = joinL [32 :: oneL c] 59
    rw [joinL_one]
  | c :: d :: r, _ => by
    have ih := wr_join (d :: r) (by simp)
    rw [List.map_cons, joinL_cons _ _ _ (by simp), ← ih]
    show 32 :: (oneL c ++ 59 :: 32 :: wrL (d :: r)) = _
    simp
theorem cut_one {n v : List UInt8} (h : ∀ b ∈ n, b ≠ 61) : cutA (n ++ 61 :: v) 61 = n ∧ cutB (n ++ 61 :: v) 61 = v := by
  have h1 : ∀ n : List UInt8, (∀ b ∈ n, b ≠ 61) → (n ++ 61 :: v).takeWhile (fun c => c != 61) = n ∧ (n ++ 61 :: v).dropWhile (fun c => c != 61) = 61 :: v := fun n => by
    induction n with
    | nil => intro _; exact ⟨rfl, rfl⟩
    | cons b n ih =>
      intro h
      have hb : (b != 61) = true := by rw [bne_iff_ne]; exact h b (by simp)
      obtain ⟨i1, i2⟩ := ih (fun x hx => h x (by simp [hx]))
      constructor
      · rw [List.cons_append, List.takeWhile_cons, if_pos hb, i1]
      · rw [List.cons_append, List.dropWhile_cons, if_pos hb, i2]
  obtain ⟨i1, i2⟩ := h1 n h
  unfold cutA cutB
  rw [i1, i2]
  exact ⟨rfl, rfl⟩
theorem less_one (x : List UInt8) : Lib.hasPrefix (32 :: x) [32] = true ∧ lessP (32 :: x) [32] = x := by
  have h : Lib.hasPrefix (32 :: x) [32] = true := by simp [Lib.hasPrefix]
  refine ⟨h, ?_⟩
  unfold lessP Lib.trimPrefix
  rw [if_pos h]; rfl
theorem pr_one {c : Ck} (h : Good c) : prOk (32 :: oneL c) = true ∧ prV (32 :: oneL c) = (c.name, c.value) := by
  obtain ⟨h1, h2⟩ := less_one (oneL c)
  obtain ⟨c1, c2⟩ := cut_one (v := c.value) h.n2
  unfold prOk prV
  rw [h1, h2]
  unfold oneL
  rw [c1, c2]
  refine ⟨?_, rfl⟩
  have h3 : hasB (c.name ++ 61 :: c.value) 61 = true := by unfold hasB; simp
  have h4 : (c.name == []) = false := by rw [beq_eq_false_iff_ne]; exact h.ne
  rw [h3, h4]; rfl
theorem parts_wr (l : List Ck) (hl : l ≠ []) (h : ∀ c ∈ l, Good c) : lparts (wrL l) = l.map fun c => 32 :: oneL c := by
  unfold lparts
  rw [wr_join l hl]
  refine parts_join _ 59 (by simpa using hl) (fun x hx b hb => ?_)
  obtain ⟨c, hc, rfl⟩ := List.mem_map.1 hx
  have hg := h c hc
  unfold oneL at hb
  simp only [List.mem_cons, List.mem_append] at hb
  rcases hb with rfl | hb | rfl | hb
  · decide
  · exact hg.n1 b hb
  · decide
  · exact hg.v1 b hb
theorem wr_nil : ∀ l : List Ck, wrL l = [] → l = []
  | [], _ => rfl
  | [c], h => by unfold wrL oneL at h; simp at h
  | c :: d :: r, h => by unfold wrL at h; simp at h
theorem read_wr (l : List Ck) (h : ∀ c ∈ l, Good c) : (8000 < (wrL l).length ∧ readsE (wrL l) = 2) ∨ (readsE (wrL l) = 0 ∧ readsL (wrL l) = nvL l) := by
  by_cases hb : 8000 < (wrL l).length
  · left; exact ⟨hb, by unfold readsE; rw [if_pos hb]⟩
  · right
    by_cases h0 : l = []
    · subst h0; exact ⟨rfl, rfl⟩
    · have hw : ¬ wrL l = [] := fun e => h0 (wr_nil l e)
      have hall : (lparts (wrL l)).all prOk = true := by
        rw [parts_wr l h0 h, List.all_eq_true]
        intro x hx
        obtain ⟨c, hc, rfl⟩ := List.mem_map.1 hx
        exact (pr_one (h c hc)).1
      constructor
      · unfold readsE; rw [if_neg hb, if_neg hw, if_pos hall]
      · unfold readsL; rw [if_neg hb, if_neg hw, if_pos hall, parts_wr l h0 h, List.map_map]
        unfold nvL
        apply List.map_congr_left
        intro c hc
        exact (pr_one (h c hc)).2
theorem ck_bulk (c : Ck) : c.name.length + c.value.length + 3 ≤ wCookie.bulk c := by
  show _ ≤ (c.name.length + 1) + ((c.value.length + 1) + (_ + (_ + (1 + (1 + (1 + (1 + (1 + (1 + (1 + (1 + 1)))))))))))
  omega
theorem wr_bulk : ∀ l : List Ck, (wrL l).length + l.length ≤ (l.map wCookie.bulk).sum + l.length
  | [] => Nat.le_refl _
  | [c] => by
    have := ck_bulk c
    show (oneL c).length + 1 ≤ wCookie.bulk c + 0 + 1
    unfold oneL
    simp only [List.length_append, List.length_cons]; omega
  | c :: d :: r => by
    have ih := wr_bulk (d :: r)
    have := ck_bulk c
    rw [List.map_cons, List.sum_cons]
    show (oneL c ++ 59 :: 32 :: wrL (d :: r)).length + _ ≤ _
    unfold oneL
    simp only [List.length_append, List.length_cons] at ih ⊢
    omega
theorem len_bulk (l : List Ck) : l.length ≤ (l.map wCookie.bulk).sum := by
  induction l with
  | nil => exact Nat.zero_le _
  | cons c l ih =>
    have := ck_bulk c
    rw [List.map_cons, List.sum_cons, List.length_cons]; omega
theorem infoAttr' : ∃ i, Try.prog.info? 39 = some i ∧ i.zero = some (.agg #[.string ⟨#[]⟩, .string ⟨#[]⟩]) ∧ i.size = 2 ∧ i.bytes = 32 := by
  have h := infoAttr
  cases hx : Try.prog.info? 39 with
  | none => rw [hx] at h; cases h
  | some i =>
    rw [hx] at h
    injection h with h
    injection h with h1 h2
    injection h2 with h2 h3
    exact ⟨i, rfl, h1, h2, h3⟩
theorem place_good {l : List UInt8} {b : UInt8} (h : ¬ 0 ≤ Lib.indexByte l b) : ∀ x ∈ l, x ≠ b := by
  intro x hx e
  subst e
  have h1 := Lib.contains_iff_indexByte l x
  rw [decide_eq_false h] at h1
  have h2 : l.contains x = true := by simpa using hx
  rw [h1] at h2; cases h2
theorem own_shape {W : World} {base : Nat} {e : TypeId} {size : Nat} {v : Value} {n : Nat} {cs : List Value} (h : W.ownsRow base e size v n cs) : ∃ ad cap, v = .slice ad n cap := by
  rcases h.2 with ⟨rfl, rfl⟩ | ⟨g, cap, cur, rfl, _⟩
  · exact ⟨none, 0, rfl⟩
  · exact ⟨_, cap, rfl⟩
set_option maxHeartbeats 8000000 in
theorem walk (v0 : Value) (l : List Ck) (w : World) (hr : Rows w v0 ckC l) (hm : maxLen ≤ maxLen ∨ l.length * 112 ≤ maxLen) (hok : ∀ c ∈ l, CkOk maxLen c) (hk : (wList wCookie).bulk l ≤ 1048576) :
    Calls Try.prog 6 #[v0] w fun e w' => e = .returned (.bool true) ∧ Below w.heap.size w w' := by
  have hk : 1 + (l.map wCookie.bulk).sum ≤ 1048576 := hk
  have hlb : l.length ≤ 1048576 := by have := len_bulk l; omega
  have hwb : (wrL l).length ≤ 1048576 := by have := wr_bulk l; omega
  obtain ⟨ad, cap, hv0⟩ := hr.shape
  subst hv0
  have HR : Hid _ := hr
  have HWB : Hid _ := hwb
  have HOK : Hid _ := hok
  obtain ⟨i0, hi, hz0, hz1, hz2⟩ := infoAttr'
  clear hk hm hok hr hwb
  go_enter Try.func6, Try.ntmps6
  go_wp2_with fail
  refine (lineBegun_any _).mono ?_
  rintro e w1 ⟨rfl, hb1⟩
  have R1 : Hid _ := Rows.below HR.out hb1 (Nat.le_refl _)
  have HB1 : Hid _ := hb1
  clear hb1
  go_wp2_with fail
  go_loopw [3, 4, 5] (fun o i _ wr => ∃ k : Nat, k ≤ l.length ∧ i = .int .i64 k ∧ wr.ownsRow w1.heap.size 39 2 o k ((nvL (l.take k)).flatMap prF) ∧ Hid (∀ (j : Nat) c, j < k → l[j]? = some c → Good c) ∧ Hid (Below w1.heap.size w1 wr)) (fun _ i _ _ => l.length - (intOf i).toNat)
  case atStart => exact ⟨0, Nat.zero_le _, rfl, by rw [List.take_zero]; exact World.ownsRow_nil _ _ _ _, fun j c h => absurd h (by omega), Below.refl _ _⟩
  case round =>
    obtain ⟨k, hk, rfl, hown, hall, hb⟩ := hrel
    obtain ⟨oad, ocap, rfl⟩ := own_shape hown
    by_cases hlt : k < l.length
    · obtain ⟨c, hc⟩ : ∃ c, l[k]? = some c := ⟨_, List.getElem?_eq_getElem hlt⟩
      obtain ⟨bl, ol, rfl, hbl, hcx⟩ := Rows.at R1.out rfl 12 (fun _ => rfl) k c hc
      have hX : ∀ (i : Nat) u, (ckC c)[i]? = some u → wr.cell? ⟨bl, ol + k * 13 + i, none⟩ = some u := fun i u hi => (hb.out.cell (p := ⟨bl, ol + k * (12 + 1) + i, none⟩) hbl).trans (hcx i u hi)
      have p0 := hX 0 _ rfl
      have p1 := hX 1 _ rfl
      have p2 := hX 2 _ rfl
      have p3 := hX 3 _ rfl
      have p4 := hX 4 _ rfl
      have p5 := hX 5 _ rfl
      have p6 := hX 6 _ rfl
      have p7 := hX 7 _ rfl
      have p8 := hX 8 _ rfl
      have p9 := hX 9 _ rfl
      have p10 := hX 10 _ rfl
      have p11 := hX 11 _ rfl
      have p12 := hX 12 _ rfl
      rw [Nat.add_zero] at p0
      have HC : Hid _ := hc
      have hcok := HOK.out c (List.mem_of_getElem? hc)
      have HN : Hid ((txt c.name).size ≤ maxLen) := hcok.name
      have HV : Hid ((txt c.value).size ≤ maxLen) := hcok.value
      obtain ⟨n, hn⟩ : ∃ n, n = c.name := ⟨_, rfl⟩
      obtain ⟨v, hv⟩ : ∃ v, v = c.value := ⟨_, rfl⟩
      have HNN : Hid _ := hn
      have HVV : Hid _ := hv
      rw [← hn] at HN p0
      rw [← hv] at HV p1
      have hle := hb.out.size
      have HBX : Hid (∀ o, Below w1.heap.size w1 (wr.alloc o)) := fun o => hb.out.alloc hle o
      clear hX hcx hc hcok hn hv
      by_cases h0 : n = []
      · have g0 := nil_tt n h0
        clear h0 hown
        go_wp2_with fail
        go_ret
        exact ⟨rfl, next HB1.out (HBX.out _)⟩
      have g0 := nil_ff n h0
      have HN0 : Hid _ := h0
      clear h0
      obtain ⟨z1, hz1'⟩ : ∃ z, z = Lib.indexByte n 59 := ⟨_, rfl⟩
      obtain ⟨z2, hz2'⟩ : ∃ z, z = Lib.indexByte n 61 := ⟨_, rfl⟩
      obtain ⟨z3, hz3'⟩ : ∃ z, z = Lib.indexByte v 59 := ⟨_, rfl⟩
      have Z1 : Hid (∀ W : World, Calls Try.prog 16 #[.string (txt n), .int .u8 59] W fun e w' => e = .returned (.int .i64 z1) ∧ w' = W) := fun W => by rw [hz1']; exact placeOf_any (txt n) 59 W HN.out
      have Z2 : Hid (∀ W : World, Calls Try.prog 16 #[.string (txt n), .int .u8 61] W fun e w' => e = .returned (.int .i64 z2) ∧ w' = W) := fun W => by rw [hz2']; exact placeOf_any (txt n) 61 W HN.out
      have Z3 : Hid (∀ W : World, Calls Try.prog 16 #[.string (txt v), .int .u8 59] W fun e w' => e = .returned (.int .i64 z3) ∧ w' = W) := fun W => by rw [hz3']; exact placeOf_any (txt v) 59 W HV.out
      have E1 : Hid (¬ 0 ≤ z1 → ∀ b ∈ n, b ≠ 59) := fun h => place_good (by rw [← hz1']; exact h)
      have E2 : Hid (¬ 0 ≤ z2 → ∀ b ∈ n, b ≠ 61) := fun h => place_good (by rw [← hz2']; exact h)
      have E3 : Hid (¬ 0 ≤ z3 → ∀ b ∈ v, b ≠ 59) := fun h => place_good (by rw [← hz3']; exact h)
      clear hz1' hz2' hz3'
      by_cases h1 : 0 ≤ z1
      · clear hown
        go_wp2_with fail
        refine (Z1.out _).mono ?_
        rintro e w' ⟨rfl, hw'⟩
        rw [hw']
        clear hw' w'
        go_wp2_with fail
        go_ret
        exact ⟨rfl, next HB1.out (HBX.out _)⟩
      by_cases h2 : 0 ≤ z2
      · clear hown
        go_wp2_with fail
        refine (Z1.out _).mono ?_
        rintro e w' ⟨rfl, hw'⟩
        rw [hw']
        clear hw' w'
        go_wp2_with fail
        refine (Z2.out _).mono ?_
        rintro e w' ⟨rfl, hw'⟩
        rw [hw']
        clear hw' w'
        go_wp2_with fail
        go_ret
        exact ⟨rfl, next HB1.out (HBX.out _)⟩
      by_cases h3 : 0 ≤ z3
      · clear hown
        go_wp2_with fail
        refine (Z1.out _).mono ?_
        rintro e w' ⟨rfl, hw'⟩
        rw [hw']
        clear hw' w'
        go_wp2_with fail
        refine (Z2.out _).mono ?_
        rintro e w' ⟨rfl, hw'⟩
        rw [hw']
        clear hw' w'
        go_wp2_with fail
        refine (Z3.out _).mono ?_
        rintro e w' ⟨rfl, hw'⟩
        rw [hw']
        clear hw' w'
        go_wp2_with fail
        go_ret
        exact ⟨rfl, next HB1.out (HBX.out _)⟩
      have HG : Hid (Good c) := ⟨by rw [← HNN.out]; exact HN0.out, by rw [← HNN.out]; exact E1.out h1, by rw [← HNN.out]; exact E2.out h2, by rw [← HVV.out]; exact E3.out h3⟩
      have hall2 : Hid (∀ (j : Nat) c, j < k + 1 → l[j]? = some c → Good c) := fun j c' hj hc' => by
        by_cases e : j = k
        · subst e
          rw [HC.out] at hc'
          injection hc' with hc'
          rw [← hc']; exact HG.out
        · exact hall.out j c' (by omega) hc'
      have HTK : Hid (nvL (l.take (k + 1)) = nvL (l.take k) ++ [(n, v)]) := by
        show _ = _
        unfold nvL
        rw [List.take_succ, HC.out, HNN.out, HVV.out]; simp
      go_wp2_with fail
      refine (Z1.out _).mono ?_
      rintro e w' ⟨rfl, hw'⟩
      rw [hw']
      clear hw' w'
      go_wp2_with fail
      refine (Z2.out _).mono ?_
      rintro e w' ⟨rfl, hw'⟩
      rw [hw']
      clear hw' w'
      go_wp2_with fail
      refine (Z3.out _).mono ?_
      rintro e w' ⟨rfl, hw'⟩
      rw [hw']
      clear hw' w'
      have own2 := (hown.alloc (.cells #[.string (txt n), .string (txt v), .string (txt c.domain), .string (txt c.path), .bool c.hostOnly, .bool c.secure, .bool c.httpOnly, .bool c.lasting, .int .i64 c.site, .int .i64 c.expiry, .int .i64 c.created, .int .i64 c.used, .int .i64 c.no] 34)).alloc (.cells #[.string (txt n), .string (txt v)] 39)
      have HB2 : Hid (Below w1.heap.size w1 ((wr.alloc (.cells #[.string (txt n), .string (txt v), .string (txt c.domain), .string (txt c.path), .bool c.hostOnly, .bool c.secure, .bool c.httpOnly, .bool c.lasting, .int .i64 c.site, .int .i64 c.expiry, .int .i64 c.created, .int .i64 c.used, .int .i64 c.no] 34)).alloc (.cells #[.string (txt n), .string (txt v)] 39))) := (HBX.out _).alloc (HBX.out _).size _
      clear hown
      go_wp2_with (at_builtin; refine wpList_append_own _ rfl (.tmp 41) (.tmp 47) 23 rfl w1.heap.size 39 i0 (.agg #[.string ⟨#[]⟩, .string ⟨#[]⟩]) 2 32 Try.underlying23 hi hz0 hz1 hz2 rfl (by decide) _ _ _ rfl own2 ⟨wr.heap.size + 1, 0, none⟩ 1 1 (prF (n, v)) rfl rfl (cell2_new _ _ _ _ _ (by simp)) (by simp [prF, Value.oneCell']) ?c1 ?c2 HB2.out.size ?_)
      case c1 => unfold maxLen; omega
      case c2 => omega
      intro v3 w3 hown3 hg3 _
      have HB3 : Hid (Below w1.heap.size w1 w3) := HB2.out.grown hg3 HB2.out.size (fun q e => (own2.lt q e).1)
      have hown4 : w3.ownsRow w1.heap.size 39 2 v3 (k + 1) ((nvL (l.take (k + 1))).flatMap prF) := by
        rw [HTK.out, List.flatMap_append]
        exact hown3
      obtain ⟨ad3, cap3, rfl⟩ := own_shape hown4
      clear own2 hown3 hg3
      go_wp2_with fail
      go_roundw
      case rel => exact ⟨k + 1, by omega, by go_num, hown4, hall2, HB3⟩
      case measure => simp [intOf]; omega
    · have hkl : k = l.length := by omega
      have HTA : Hid (l.take k = l) := List.take_of_length_le (by omega)
      have HG : Hid (∀ c ∈ l, Good c) := fun c hc => by
        obtain ⟨j, hj⟩ := List.getElem?_of_mem hc
        exact hall.out j c (by have := (List.getElem?_eq_some_iff.1 hj).1; omega) hj
      rw [HTA.out] at hown
      have RW : Hid (Rows wr (.slice oad k ocap) prF (nvL l)) := by
        have h := Reads.of_own hown
        show Reads _ _ _ _
        have e : (nvL l).length = k := by unfold nvL; rw [List.length_map, hkl]
        rw [e]; exact h
      have RL : Hid (Rows wr (.slice ad l.length cap) ckC l) := Rows.below R1.out hb.out (Nat.le_refl _)
      have HNL : Hid ((nvL l).length ≤ maxLen) := by
        show _ ≤ _
        unfold nvL; rw [List.length_map]; unfold maxLen; omega
      have hlm : l.length ≤ maxLen := by unfold maxLen; omega
      have HLM : Hid _ := hlm
      obtain ⟨s, hs⟩ : ∃ s, s = wrL l := ⟨_, rfl⟩
      have HSB : Hid (s.length ≤ maxLen) := by show _ ≤ _; rw [hs]; have := HWB.out; unfold maxLen; omega
      have KW : Hid (∀ W v, Rows W v ckC l → Calls Try.prog 13 #[v] W fun e w' => e = .returned (.string (txt s)) ∧ Below W.heap.size W w') := fun W v h => by rw [hs]; exact write_any v l W h HLM.out (by have := HWB.out; omega)
      have HRD : Hid _ := read_wr l HG.out
      have HS : Hid _ := hs
      clear hown hkl hlm hs
      go_wp2_with fail
      refine (KW.out _ _ RL.out).mono ?_
      rintro e w2 ⟨rfl, hb2⟩
      have HB2 : Hid _ := next (next HB1.out hb.out) hb2
      have RW2 : Hid _ := Rows.below RW.out hb2 (Nat.le_refl _)
      clear hb2
      go_wp2_with fail
      refine (lread_any (txt s) _ HSB.out).mono ?_
      rw [txt_toList, HS.out]
      rintro e w3 ⟨v3, rfl, r3, hb3⟩
      have HB3 : Hid _ := next HB2.out hb3
      have RW3 : Hid _ := Rows.below RW2.out hb3 (Nat.le_refl _)
      rcases HRD.out with ⟨_, h2⟩ | ⟨h2, h3⟩
      · clear r3 hb3
        rw [h2]
        clear h2
        go_wp2_with fail
        go_ret
        exact ⟨rfl, HB3.out⟩
      · rw [h3] at r3
        have RV3 : Hid _ := r3
        rw [h2]
        clear r3 hb3 h2 h3
        go_wp2_with fail
        refine (sameAt_any _ _ (nvL l) (nvL l) _ RV3.out RW3.out HNL.out HNL.out).mono ?_
        rw [(eqP_iff _ _).2 rfl]
        rintro e w4 ⟨rfl, n4, hw4⟩
        have HB4 : Hid (Below w.heap.size w w4) := by rw [hw4]; exact HB3.out.trans (below_drewN' _ _ _)
        clear hw4
        go_wp2_with fail
        go_ret
        exact ⟨rfl, HB4.out⟩
set_option maxRecDepth 100000 in
theorem lifted (os : Os) (started : os.Started) (H : Type) (enc : TypeId × Value → H) (F : Stop.Interp) :
    ReturnsInHanded {} Try.checked os 6 .any ((Rows.OpenSpec.upto Rows.lineBackSpec).pre6 enc Try.prog Try.f6 Rows.lineBackUptoRow.domain false) (((Rows.OpenSpec.upto Rows.lineBackSpec).at F).post enc Try.prog Try.f6 false true false false) := by
  refine returnsInHanded_of_cond (C := Try.checked) (s := (Rows.OpenSpec.upto Rows.lineBackSpec)) (k := Rows.uptoSmall) rfl own started (by kernel_rfl) Try.func6
    (OpenSpec.witness (enc := enc) (C := Try.checked) (s := (Rows.OpenSpec.upto Rows.lineBackSpec)) (k := Rows.uptoSmall) rfl false ⟨#[], #[.slice none 0 0], []⟩ 8 (by kernel_rfl) (by kernel_rfl) (by kernel_rfl)
      (x := ([.nil], [], [])) (by kernel_rfl) rfl (by kernel_rfl)) ?_
  intro W base args ds gs before hval0 hW hcnd hk _
  have hval : ∀ (j : Nat) t v, Try.f6.params[j]? = some t → args[j]? = some v → Value.okWide Try.prog W .any base t v := hval0
  have hW' := hW
  obtain ⟨p, q, hA0, hV, rfl, hfz, hnd⟩ := hW
  have hA : DataW.TrodAll enc Try.prog W 0 (fun _ => true) true Try.f6.params.toList args.toList ds p := hA0
  rw [Try.params6] at hA hval
  obtain ⟨v0, vs0, d0, ds0, p0, q0, hargs, rfl, rfl, h0, r0⟩ := trodAll_cons hA
  obtain ⟨rfl, rfl, rfl⟩ := trodAll_nil r0
  obtain rfl : args = #[v0] := by cases args; simp_all
  obtain ⟨rfl, rfl⟩ := trodVars_none hV
  have k0 := h0
  have lt0 : ∀ x ∈ p0, x.block < W.heap.size := by obtain ⟨m, hm⟩ := k0; exact DataW.trod_lt m _ _ _ hm
  obtain ⟨l0, rd0, m0, ok0, bk0⟩ := open_cookies (hval 0 22 v0 rfl rfl) k0 maxLen (fits_max _)
  have hbulk := bulk_of hk
  simp only [List.cons_append, List.nil_append, List.append_nil, Rows.uptoBulkAll] at hbulk
  have hbk0 := bk0
  clear hA0 hval0
  refine (walk v0 l0 W rd0 m0 ok0 (by omega)).mono fun e W' ⟨he, bel⟩ => ?_
  subst he
  exact ⟨_, rfl, _, _, _, [], _, [], hW', trodAll_mk1 (shut_bool Try.underlying4 _), (trodAll_cons_mk (Below.trod laidOut (by kernel_rfl) (of_decide_eq_true (by kernel_rfl)) k0 bel lt0) trodAll_mk0), rfl, bel.frame _, fun h => by cases h⟩

theorem proved : Rows.LineBackUptoSaid :=
  OpenClaim.holds_of_cond 6 Try.f6 rfl rfl rfl rfl rfl rfl rfl ⟨rfl, rfl, rfl, rfl, rfl⟩ rfl rfl rfl rfl rfl (by kernel_rfl) Try.func6 (by kernel_rfl)
    (of_decide_eq_true (by kernel_rfl)) (by unfold Func.isWrapper; first | (rw [if_pos (by decide +kernel)]; kernel_rfl) | (rw [if_neg (by decide +kernel)]; exact ⟨rfl, rfl⟩))
    (fun os started H enc _ F => lifted os started H enc F)
#print axioms proved
end Go.Proofs.Ytoppjfambomdmaa.lineBack
