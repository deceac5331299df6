/- The contract of Read. -/
import Derived.Test.YtoppjfambomdmaaLineA
namespace Go.Proofs.Ytoppjfambomdmaa
open Go.RowKit
set_option linter.all false
set_option maxRecDepth 100000

theorem infoAttr : (Try.prog.info? 39).map (fun i => (i.zero, i.size, i.bytes)) = some (some (.agg #[.string ⟨#[]⟩, .string ⟨#[]⟩]), 2, 32) := by kernel_rfl
theorem cell2_new (W : World) (B : Nat) (x y : Value) (t : TypeId) (hB : B = W.heap.size) : ∀ j u, [x, y][j]? = some u → (W.alloc (.cells #[x, y] t)).cell? ((⟨B, 0, none⟩ : Addr).add j) = some u := by
  subst hB
  intro j u hj
  match j, hj with
  | 0, hj => simp at hj; subst hj; simp [Addr.add]
  | 1, hj => simp at hj; subst hj; simp [Addr.add]
theorem lpart_len (s : List UInt8) (b : UInt8) : ∀ p ∈ partsL s b, p.length ≤ s.length := by
  induction s with
  | nil => intro p hp; simp [partsL] at hp; subst hp; simp
  | cons c s ih =>
    intro p hp
    by_cases h : c = b
    · simp only [partsL, h, if_true, List.mem_cons] at hp
      rcases hp with rfl | hp
      · simp
      · have := ih p hp; simp; omega
    · obtain ⟨q, qs, e1, e2⟩ := partsL_cons c s b h
      rw [e2] at hp
      rw [e1] at ih
      rcases List.mem_cons.1 hp with rfl | hp
      · have := ih q (by simp); simp; omega
      · have := ih p (by simp [hp]); simp; omega
theorem parts_le (s : List UInt8) (b : UInt8) (p : List UInt8) (h : p ∈ partsL s b) : p.length ≤ s.length := lpart_len s b p h
set_option maxHeartbeats 2000000 in
theorem lread_any (s : ByteArray) (w : World) (hs : s.size ≤ maxLen) : Calls Try.prog 7 #[.string s] w fun e w' =>
    ∃ v, e = .returned (.tuple #[v, .int .i64 (readsE s.data.toList)]) ∧ Rows w' v prF (readsL s.data.toList) ∧ Below w.heap.size w w' := by
  obtain ⟨x, rfl⟩ : ∃ p, s = txt p := ⟨s.data.toList, rfl⟩
  rw [txt_toList]
  obtain ⟨ze, hze⟩ : ∃ z, z = readsE x := ⟨_, rfl⟩
  obtain ⟨zl, hzl⟩ : ∃ z, z = readsL x := ⟨_, rfl⟩
  rw [← hze, ← hzl]
  by_cases hbig : 8000 < x.length
  · have HE : Hid (ze = 2) := by show _ = _; rw [hze]; unfold readsE; rw [if_pos hbig]
    have HL : Hid (zl = []) := by show _ = _; rw [hzl]; unfold readsL; rw [if_pos hbig]
    have hz : (8000 : Int) < ((txt x).size : Int) := by have : (txt x).size = x.length := rfl; omega
    clear hze hzl hbig
    go_enter Try.func7, Try.ntmps7
    go_wp2_with fail
    exact bodyPost_ret (v := .tuple #[.slice none 0 0, .int .i64 2]) (by simp [results, Try.results7, go_sem]) rfl ⟨.slice none 0 0, by rw [HE.out], by rw [HL.out]; exact ⟨none, 0, rfl, .inl rfl⟩, Below.refl _ _⟩
  have hz : ¬ (8000 : Int) < ((txt x).size : Int) := by have : (txt x).size = x.length := rfl; omega
  by_cases hnil : x = []
  · have HE : Hid (ze = 0) := by show _ = _; rw [hze]; unfold readsE; rw [if_neg hbig, if_pos hnil]
    have HL : Hid (zl = []) := by show _ = _; rw [hzl]; unfold readsL; rw [if_neg hbig, if_pos hnil]
    have hne := nil_tt x hnil
    clear hze hzl hbig hnil
    go_enter Try.func7, Try.ntmps7
    go_wp2_with fail
    exact bodyPost_ret (v := .tuple #[.slice none 0 0, .int .i64 0]) (by simp [results, Try.results7, go_sem]) rfl ⟨.slice none 0 0, by rw [HE.out], by rw [HL.out]; exact ⟨none, 0, rfl, .inl rfl⟩, Below.refl _ _⟩
  have hne := nil_ff x hnil
  obtain ⟨i0, hi, hz0, hz1, hz2⟩ : ∃ i, Try.prog.info? 39 = some i ∧ i.zero = some (.agg #[.string ⟨#[]⟩, .string ⟨#[]⟩]) ∧ i.size = 2 ∧ i.bytes = 32 := by
    have h := infoAttr
    cases hx : Try.prog.info? 39 with
    | none => rw [hx] at h; cases h
    | some i =>
      rw [hx] at h
      injection h with h
      injection h with h1 h2
      injection h2 with h2 h3
      exact ⟨i, rfl, h1, h2, h3⟩
  obtain ⟨ps, hps⟩ : ∃ ps, ps = lparts x := ⟨_, rfl⟩
  have HE : Hid (ze = if ps.all prOk then 0 else 1) := by show _ = _; rw [hze, hps]; unfold readsE; rw [if_neg hbig, if_neg hnil]
  have HL : Hid (zl = if ps.all prOk then ps.map prV else []) := by show _ = _; rw [hzl, hps]; unfold readsL; rw [if_neg hbig, if_neg hnil]
  have HTT : Hid ((⟨#[32]⟩ : ByteArray) ++ txt x = txt (32 :: x)) := by
    show _ = _
    rw [show (⟨#[32]⟩ : ByteArray) = txt [32] from rfl, txt_append]; rfl
  have HLN : Hid (ps.length ≤ 8002) := by
    show _ ≤ _
    have h : (partsL (32 :: x) 59).length ≤ (32 :: x).length + 1 := partsL_len (32 :: x) 59
    rw [hps]; unfold lparts; simp only [List.length_cons] at h; omega
  have HPL : Hid (∀ p ∈ ps, p.length ≤ maxLen) := fun p hp => by
    rw [hps] at hp
    have := parts_le _ _ p hp
    simp only [List.length_cons] at this
    unfold maxLen; omega
  have HSZ : Hid (((txt (32 :: x)).size + 1) * 16 ≤ 140737488355328) := by show ((32 :: x).length + 1) * 16 ≤ _; simp only [List.length_cons]; omega
  have HPS : Hid _ := hps
  clear hze hzl hbig hnil hps
  go_enter Try.func7, Try.ntmps7
  go_wp2_with fail
  rw [HTT.out]
  refine (parts_any (txt (32 :: x)) 59 _ HSZ.out).mono ?_
  rw [txt_toList, show partsL (32 :: x) 59 = ps from HPS.out.symm]
  rintro e w1 ⟨vp, rfl, ownp, hb1⟩
  obtain ⟨adp, capp, rfl, hrp⟩ := Reads.of_own ownp
  have HB1 : Hid _ := hb1
  have hsz1 := hb1.size
  clear ownp hb1
  go_wp2_with fail
  go_loopw [4, 18] (fun o i wr => ∃ k : Nat, k ≤ ps.length ∧ i = .int .i64 k ∧ wr.ownsRow w1.heap.size 39 2 o k (((ps.take k).map prV).flatMap prF) ∧ Below w1.heap.size w1 wr ∧ Hid (∀ p ∈ ps.take k, prOk p = true)) (fun _ i _ => ps.length - (intOf i).toNat)
  case atStart => exact ⟨0, Nat.zero_le _, rfl, by rw [List.take_zero]; exact World.ownsRow_nil _ _ _ _, Below.refl _ _, fun p hp => by simp at hp⟩
  case round =>
    obtain ⟨k, hk, rfl, hown, hb, hall⟩ := hrel
    have hlen := HLN.out
    by_cases hlt : k < ps.length
    · have e1 := List.getElem?_eq_getElem hlt
      obtain ⟨p, hpk⟩ : ∃ p, p = ps[k] := ⟨_, rfl⟩
      rw [← hpk] at e1
      rcases hrp with hr | ⟨bl, ol, rfl, hr⟩
      · have : (strs ps).length = ps.length := strs_length ps
        rw [hr] at this; simp at this; omega
      have hc0 := hr k _ (strs_get e1)
      have hc := (hb.cell (p := ⟨bl, ol + k, none⟩) (cell_in hc0)).trans hc0
      have HPP : Hid ((txt p).size ≤ maxLen) := HPL.out p (List.mem_of_getElem? e1)
      have HTK : Hid (ps.take (k + 1) = ps.take k ++ [p]) := by
        show _ = _
        rw [List.take_succ_eq_append_getElem hlt, ← hpk]
      have HME : Hid (p ∈ ps) := List.mem_of_getElem? e1
      obtain ⟨ok, hok⟩ : ∃ o, o = prOk p := ⟨_, rfl⟩
      have HOK : Hid _ := hok
      clear hpk e1 hc0 hr hok
      cases ok
      · have HF : Hid (ps.all prOk = false) := by
          show _ = _
          rw [List.all_eq_false]
          exact ⟨p, HME.out, by rw [← HOK.out]; decide⟩
        clear hown
        go_wp2_with fail
        refine (lpair_any (txt p) _ HPP.out).mono ?_
        rw [txt_toList, ← HOK.out, if_neg (by decide), show (prF ([], [])).toArray = #[.string ⟨#[]⟩, .string ⟨#[]⟩] from rfl]
        rintro e w2 ⟨rfl, hb2⟩
        go_wp2_with fail
        exact bodyPost_ret (v := .tuple #[.slice none 0 0, .int .i64 1]) (by simp [results, Try.results7, go_sem]) rfl ⟨.slice none 0 0, by rw [HE.out, HF.out]; rfl, by rw [HL.out, HF.out]; exact ⟨none, 0, rfl, .inl rfl⟩, (next (next HB1.out hb) hb2).alloc (next (next HB1.out hb) hb2).size _⟩
      · obtain ⟨n, v, hnv⟩ : ∃ n v, prV p = (n, v) := ⟨_, _, rfl⟩
        have HNV : Hid _ := hnv
        clear hnv
        go_wp2_with fail
        refine (lpair_any (txt p) _ HPP.out).mono ?_
        rw [txt_toList, ← HOK.out, if_pos rfl, HNV.out, show (prF (n, v)).toArray = #[.string (txt n), .string (txt v)] from rfl]
        rintro e w2 ⟨rfl, hb2⟩
        have hown1 := own_below hown hb2 (Nat.le_refl _)
        have hb3 : Below w1.heap.size w1 w2 := next hb hb2
        clear hown hc hb2
        go_wp2_with (at_builtin; refine wpList_append_own _ rfl (.tmp 29) (.tmp 31) 23 rfl w1.heap.size 39 i0 (.agg #[.string ⟨#[]⟩, .string ⟨#[]⟩]) 2 32 Try.underlying23 hi hz0 hz1 hz2 rfl (by decide) _ _ _ rfl ((hown1.alloc _).alloc _) ⟨w2.heap.size + 1, 0, none⟩ 1 1 (prF (n, v)) rfl rfl (cell2_new _ _ _ _ _ (by simp)) (by simp [prF, Value.oneCell']) ?c1 ?c2 (by have := hb3.size; simp; omega) ?_)
        case c1 => unfold maxLen; omega
        case c2 => omega
        intro v1 w3 hown2 hg2 _
        have hb4 : Below w1.heap.size w1 ((w2.alloc (.cells #[.string (txt n), .string (txt v)] 39)).alloc (.cells #[.string (txt n), .string (txt v)] 39)) := (hb3.alloc hb3.size _).alloc (by have := hb3.size; simp; omega) _
        have hb5 := hb4.grown hg2 hb4.size (fun q e => (hown1.lt q e).1)
        have hown3 : w3.ownsRow w1.heap.size 39 2 v1 (k + 1) (((ps.take (k + 1)).map prV).flatMap prF) := by
          rw [HTK.out, List.map_append, List.map_take, List.flatMap_append]
          simp only [List.map_cons, List.map_nil, List.flatMap_cons, List.flatMap_nil, List.append_nil, HNV.out]
          exact hown2
        have hall2 : Hid (∀ q ∈ ps.take (k + 1), prOk q = true) := fun q hq => by
          rw [HTK.out] at hq
          rcases List.mem_append.1 hq with h | h
          · exact hall.out q h
          · rw [List.mem_singleton.1 h, ← HOK.out]
        clear hown1 hown2 hg2 hb4 hb3
        go_wp2
        go_roundw
        case rel => exact ⟨k + 1, by omega, by go_num, hown3, hb5, hall2⟩
        case measure => simp [intOf]; omega
    · have HT : Hid (ps.take k = ps) := List.take_of_length_le (by omega)
      have hke : k = ps.length := by omega
      have HF : Hid (ps.all prOk = true) := by
        show _ = _
        rw [List.all_eq_true]
        intro p hp
        exact hall.out p (by rw [HT.out]; exact hp)
      rw [HT.out] at hown
      have hrd := Reads.of_own hown
      rw [hke, show ps.length = (ps.map prV).length from (List.length_map prV).symm] at hrd
      have HRR : Hid (Rows _ _ prF (ps.map prV)) := hrd
      clear hrd
      obtain ⟨ad, cp, rfl⟩ := Rows.shape HRR.out
      clear hown hke
      go_wp2
      refine bodyPost_ret (v := .tuple #[.slice ad (ps.map prV).length cp, .int .i64 0]) (by simp [results, Try.results7, go_sem]) rfl ⟨_, by rw [HE.out, HF.out]; rfl, by rw [HL.out, HF.out, if_pos rfl]; exact HRR.out, next HB1.out hb⟩
end Go.Proofs.Ytoppjfambomdmaa
