/- The reference's pairs of a text that was sent. -/
import Derived.Test.YtoppjfambomdmaaLineH
import Derived.Test.YtoppjfambomdmaaWordG
import Derived.Test.YtoppjfambomdmaaKit5
namespace Go.Proofs.Ytoppjfambomdmaa
open Go.RowKit
set_option linter.all false
set_option maxRecDepth 100000

/-- the parts, and those of the text with a blank ahead -/
theorem lparts_at (x : List UInt8) (k : Nat) (q : List UInt8) (h : (partsL x 59)[k]? = some q) : (lparts x)[k]? = some (if k = 0 then 32 :: q else q) := by
  obtain ⟨p, ps, e1, e2⟩ := partsL_cons 32 x 59 (by decide)
  unfold lparts
  rw [e2]
  rw [e1] at h
  cases k with
  | zero => simp at h ⊢; exact h
  | succ k => simpa using h
theorem lparts_length (x : List UInt8) : (lparts x).length = (partsL x 59).length := by
  obtain ⟨p, ps, e1, e2⟩ := partsL_cons 32 x 59 (by decide)
  unfold lparts
  rw [e2, e1]; rfl
theorem less32 (u : List UInt8) : Lib.hasPrefix (32 :: u) [32] = true ∧ lessP (32 :: u) [32] = u := by
  have h : Lib.hasPrefix (32 :: u) [32] = true := by simp [Lib.hasPrefix]
  refine ⟨h, ?_⟩
  unfold lessP Lib.trimPrefix
  rw [if_pos h]; rfl
/-- a part with its blank -/
theorem pr_some (u : List UInt8) (o : Nat) (h : Lib.indexByte u 61 = (o : Int)) (ho : 1 ≤ o) : prOk (32 :: u) = true ∧ prV (32 :: u) = (u.take o, u.drop (o + 1)) := by
  obtain ⟨h1, h2⟩ := less32 u
  obtain ⟨c1, c2, c3, _⟩ := cut_some u 61 o h
  have hol := (List.getElem?_eq_some_iff.1 (Lib.indexByte_some h).1).1
  unfold prOk prV
  rw [h1, h2, c1, c2, c3]
  refine ⟨?_, rfl⟩
  have : (u.take o == []) = false := by
    rw [beq_eq_false_iff_ne]
    intro e
    have := congrArg List.length e
    rw [List.length_take, List.length_nil] at this
    omega
  rw [this]; rfl
theorem pr_none (u : List UInt8) (h : Lib.indexByte u 61 < 1) : prOk (32 :: u) = false := by
  obtain ⟨h1, h2⟩ := less32 u
  have hge := Lib.indexByte_ge u 61
  unfold prOk
  rw [h1, h2]
  rcases (by omega : Lib.indexByte u 61 = -1 ∨ Lib.indexByte u 61 = ((0 : Nat) : Int)) with e | e
  · obtain ⟨c1, c2, c3⟩ := cut_none u 61 e
    rw [c3]; rfl
  · obtain ⟨c1, c2, c3, _⟩ := cut_some u 61 0 e
    rw [c1, c3]; rfl
theorem pr_bad (q : List UInt8) (h : q.head? ≠ some 32) : prOk q = false := by
  unfold prOk
  have : Lib.hasPrefix q [32] = false := by
    cases q with
    | nil => rfl
    | cons c r =>
      rw [← Bool.not_eq_true]
      intro e
      apply h
      have e : [(32 : UInt8)].isPrefixOf (c :: r) = true := e
      simp [List.isPrefixOf] at e
      rw [e]; rfl
  rw [this]; rfl
theorem infoAttr'' : ∃ i, Try.prog.info? 39 = some i ∧ i.zero = some (.agg #[.string ⟨#[]⟩, .string ⟨#[]⟩]) ∧ i.size = 2 ∧ i.bytes = 32 := by
  have h := infoAttr
  cases hx : Try.prog.info? 39 with
  | none => rw [hx] at h; cases h
  | some i =>
    rw [hx] at h
    injection h with h
    injection h with h1 h2
    injection h2 with h2 h3
    exact ⟨i, rfl, h1, h2, h3⟩
theorem own_shape {W : World} {base : Nat} {e : TypeId} {size : Nat} {v : Value} {n : Nat} {cs : List Value} (h : W.ownsRow base e size v n cs) : ∃ ad cap, v = .slice ad n cap := by
  rcases h.2 with ⟨rfl, rfl⟩ | ⟨g, cap, cur, rfl, _⟩
  · exact ⟨none, 0, rfl⟩
  · exact ⟨_, cap, rfl⟩
set_option maxHeartbeats 8000000 in
theorem pairsOf_any (x : List UInt8) (w : World) (hx : x.length ≤ 1073741824) :
    Calls Try.prog 8 #[.string (txt x)] w fun e w' => ∃ v, e = .returned (.tuple #[v, .int .i64 (readsE x)]) ∧ Rows w' v prF (readsL x) ∧ Below w.heap.size w w' := by
  obtain ⟨ze, hze⟩ : ∃ z, z = readsE x := ⟨_, rfl⟩
  obtain ⟨zl, hzl⟩ : ∃ z, z = readsL x := ⟨_, rfl⟩
  rw [← hze, ← hzl]
  by_cases hbig : 8000 < x.length
  · have HE : Hid (ze = 2) := by show _ = _; rw [hze]; unfold readsE; rw [if_pos hbig]
    have HL : Hid (zl = []) := by show _ = _; rw [hzl]; unfold readsL; rw [if_pos hbig]
    have hz : (8000 : Int) < ((txt x).size : Int) := by have : (txt x).size = x.length := rfl; omega
    clear hze hzl hbig
    go_enter Try.func8, Try.ntmps8
    go_wp2_with fail
    exact bodyPost_ret (v := .tuple #[.slice none 0 0, .int .i64 2]) (by simp [results, Try.results8, go_sem]) rfl ⟨.slice none 0 0, by rw [HE.out], by rw [HL.out]; exact ⟨none, 0, rfl, .inl rfl⟩, Below.refl _ _⟩
  have hz : ¬ (8000 : Int) < ((txt x).size : Int) := by have : (txt x).size = x.length := rfl; omega
  by_cases hnil : x = []
  · have HE : Hid (ze = 0) := by show _ = _; rw [hze]; unfold readsE; rw [if_neg hbig, if_pos hnil]
    have HL : Hid (zl = []) := by show _ = _; rw [hzl]; unfold readsL; rw [if_neg hbig, if_pos hnil]
    have hs0 : (((txt x).size : Int) == 0) = true := by rw [hnil]; rfl
    have hs0' : (txt x).size = 0 := by rw [hnil]; rfl
    clear hze hzl hbig hnil
    go_enter Try.func8, Try.ntmps8
    go_wp2_with fail
    exact bodyPost_ret (v := .tuple #[.slice none 0 0, .int .i64 0]) (by simp [results, Try.results8, go_sem]) rfl ⟨.slice none 0 0, by rw [HE.out], by rw [HL.out]; exact ⟨none, 0, rfl, .inl rfl⟩, Below.refl _ _⟩
  have hpos : ¬ (txt x).size = 0 := by intro h; exact hnil (List.length_eq_zero_iff.1 h)
  have hs0 : (((txt x).size : Int) == 0) = false := by rw [beq_eq_false_iff_ne]; omega
  obtain ⟨i0, hi, hz0, hz1, hz2⟩ := infoAttr''
  obtain ⟨ps, hps⟩ : ∃ ps, ps = partsL x 59 := ⟨_, rfl⟩
  have HE : Hid (ze = if (lparts x).all prOk then 0 else 1) := by show _ = _; rw [hze]; unfold readsE; rw [if_neg hbig, if_neg hnil]
  have HL : Hid (zl = if (lparts x).all prOk then (lparts x).map prV else []) := by show _ = _; rw [hzl]; unfold readsL; rw [if_neg hbig, if_neg hnil]
  have HAT : Hid (∀ k q, ps[k]? = some q → (lparts x)[k]? = some (if k = 0 then 32 :: q else q)) := fun k q h => lparts_at x k q (by rw [← hps]; exact h)
  have HLEN : Hid ((lparts x).length = ps.length) := by show _ = _; rw [lparts_length, hps]
  have HLN : Hid (ps.length ≤ 8002) := by
    show _ ≤ _
    have h := partsL_len x 59
    rw [hps]; omega
  have HPL : Hid (∀ p ∈ ps, p.length ≤ 8000) := fun p hp => by
    rw [hps] at hp
    have := parts_le _ _ p hp
    omega
  have HSZ : Hid (((txt x).size + 1) * 16 ≤ 140737488355328) := by show (x.length + 1) * 16 ≤ _; omega
  have HPS : Hid _ := hps
  have hbad : ∀ k q, ps[k]? = some q → prOk (if k = 0 then 32 :: q else q) = false → ze = 1 ∧ zl = [] := fun k q hq hp => by
    have : (lparts x).all prOk = false := by
      rw [List.all_eq_false]
      exact ⟨_, List.mem_of_getElem? (HAT.out k q hq), by rw [hp]; decide⟩
    exact ⟨by rw [HE.out, this]; rfl, by rw [HL.out, this]; rfl⟩
  have HBAD : Hid _ := hbad
  clear hze hzl hbig hnil hps hbad
  go_enter Try.func8, Try.ntmps8
  go_wp2_with fail
  refine (partsOf_any (txt x) 59 _ HSZ.out).mono ?_
  rw [txt_toList, show partsL x 59 = ps from HPS.out.symm]
  rintro e w1 ⟨vp, rfl, ownp, hb1⟩
  obtain ⟨adp, capp, rfl, hrp⟩ := Reads.of_own ownp
  have HB1 : Hid _ := hb1
  have hln := HLN.out
  clear ownp hb1
  go_wp2_with fail
  go_loopw [5, 6, 7, 8] (fun o i _ _ wr => ∃ k : Nat, k ≤ ps.length ∧ i = .int .i64 k ∧ wr.ownsRow w1.heap.size 39 2 o k ((((lparts x).take k).map prV).flatMap prF) ∧ Hid (Below w1.heap.size w1 wr) ∧ Hid (∀ p ∈ (lparts x).take k, prOk p = true)) (fun _ i _ _ _ => ps.length - (intOf i).toNat)
  case atStart => exact ⟨0, Nat.zero_le _, rfl, by rw [List.take_zero]; exact World.ownsRow_nil _ _ _ _, Below.refl _ _, fun p hp => by simp at hp⟩
  case round =>
    obtain ⟨k, hk, rfl, hown, hb, hall⟩ := hrel
    obtain ⟨oad, ocap, rfl⟩ := own_shape hown
    by_cases hlt : k < ps.length
    · obtain ⟨q, hq⟩ : ∃ q, ps[k]? = some q := ⟨_, List.getElem?_eq_getElem hlt⟩
      rcases hrp with hr | ⟨bl, ol, rfl, hr⟩
      · have : (strs ps).length = ps.length := strs_length ps
        rw [hr] at this; simp at this; omega
      have hc0 := hr k _ (strs_get hq)
      have hc := (hb.out.cell (p := ⟨bl, ol + k, none⟩) (cell_in hc0)).trans hc0
      have HQ : Hid _ := hq
      have hql := HPL.out q (List.mem_of_getElem? hq)
      have hql' : (txt q).size ≤ 8000 := hql
      clear hc0 hq hql
      by_cases hk0 : k = 0
      · subst hk0
        rw [Nat.add_zero] at hc
        rw [show ((0 : Nat) : Int) = 0 from rfl]
        obtain ⟨z, hzz⟩ : ∃ z, z = Lib.indexByte q 61 := ⟨_, rfl⟩
        have KP : Hid (∀ W : World, Calls Try.prog 16 #[.string (txt q), .int .u8 61] W fun e w' => e = .returned (.int .i64 z) ∧ w' = W) := fun W => by rw [hzz]; exact placeOf_any (txt q) 61 W (by unfold maxLen; omega)
        have HLQ : Hid ((lparts x)[0]? = some (32 :: q)) := by have h := HAT.out 0 _ HQ.out; rw [if_pos rfl] at h; exact h
        by_cases hz1' : z < 1
        · have HB : prOk (32 :: q) = false := pr_none q (by rw [← hzz]; exact hz1')
          obtain ⟨b1, b2⟩ := HBAD.out 0 _ HQ.out (by rw [if_pos rfl]; exact HB)
          have HZE : Hid _ := b1
          have HZL : Hid _ := b2
          clear b1 b2 hown hzz HB
          go_wp2_with fail
          refine (KP.out _).mono ?_
          rintro e w2 ⟨rfl, hw2⟩
          rw [hw2]
          clear hw2 w2
          go_wp2_with fail
          exact bodyPost_ret (v := .tuple #[.slice none 0 0, .int .i64 1]) (by simp [results, Try.results8, go_sem]) rfl ⟨.slice none 0 0, by rw [HZE.out], by rw [HZL.out]; exact ⟨none, 0, rfl, .inl rfl⟩, next HB1.out hb.out⟩
        · obtain ⟨o, ho⟩ : ∃ o : Nat, z = (o : Int) := ⟨z.toNat, by omega⟩
          subst ho
          obtain ⟨hp1, hp2⟩ := pr_some q o hzz.symm (by omega)
          obtain ⟨_, _, _, hou⟩ := cut_some q 61 o hzz.symm
          obtain ⟨n, hn⟩ : ∃ n, n = q.take o := ⟨_, rfl⟩
          obtain ⟨v, hv⟩ : ∃ v, v = q.drop (o + 1) := ⟨_, rfl⟩
          have HTK : Hid (((lparts x).take (0 + 1)).map prV = ((lparts x).take 0).map prV ++ [(n, v)]) := by
            show _ = _
            rw [List.take_succ, HLQ.out, List.map_append, hn, hv, ← hp2]; rfl
          have hall2 : Hid (∀ p ∈ (lparts x).take (0 + 1), prOk p = true) := fun p hp => by
            rw [List.take_succ, HLQ.out] at hp
            rcases List.mem_append.1 hp with h | h
            · exact hall.out p h
            · have h : p = 32 :: q := by simpa using h
              rw [h]; exact hp1
          have x1 : (txt q).extract 0 o = txt n := by rw [ext_to, txt_toList, hn]
          have x2 : (txt q).extract (o + 1) (txt q).size = txt v := by rw [ext_from, txt_toList, hv]
          have hos : o < (txt q).size := hou
          have y1 : (o : Int) ≤ ((txt q).size : Int) := by omega
          have y2 : (o : Int) + 1 ≤ ((txt q).size : Int) := by omega
          have y3 : (0 : Int) ≤ (o : Int) + 1 := by omega
          have y4 : ((o : Int) + 1).toNat = o + 1 := by omega
          have y5 : IntKind.i64.wrap ((o : Int) + 1) = (o : Int) + 1 := IntWalk.i64_in _ (by omega)
          have hown1 : wr.drew.ownsRow w1.heap.size 39 2 (.slice oad 0 ocap) 0 ((((lparts x).take 0).map prV).flatMap prF) := hown
          have hle := hb.out.size
          have HBA : Hid (Below w1.heap.size w1 (wr.drew.alloc (.cells #[.string (txt n), .string (txt v)] 39))) := (hb.out.drew).alloc hle _
          have RLIT : Hid (Reads (wr.drew.alloc (.cells #[.string (txt n), .string (txt v)] 39)) (.slice (some ⟨wr.heap.size, 0, none⟩) 1 1) 1 (prF (n, v))) := ⟨_, 1, rfl, .inr ⟨_, 0, rfl, fun j u' hj => by rw [Nat.zero_add]; exact (World.cell?_alloc_new wr.drew _ 39 j).trans (by simpa [prF] using hj)⟩⟩
          have M1 : Hid (0 + 1 ≤ maxLen) := by show _ ≤ _; unfold maxLen; omega
          have M2 : Hid ((0 + 1) * 32 ≤ 140737488355328) := by show _ ≤ _; omega
          have ONE : Hid (∀ y ∈ prF (n, v), y.oneCell' = true) := fun y hy => by
            simp only [prF, List.mem_cons, List.not_mem_nil, or_false] at hy
            rcases hy with rfl | rfl <;> rfl
          clear hn hv hp1 hp2 hou hzz hos
          go_wp2_with fail
          refine (KP.out _).mono ?_
          rintro e w2 ⟨rfl, hw2⟩
          rw [hw2]
          clear hw2 w2
          go_wp2_with fail
          go_region_held3 (fun _ => True) (trivial)
            (first
            | (refine step_append_reads (by rfl) (.tmp 43) (.tmp 52) 23 (by rfl) w1.heap.size 39 i0 (.agg #[.string ⟨#[]⟩, .string ⟨#[]⟩]) 2 32 Try.underlying23 hi hz0 hz1 hz2 rfl (by decide) (.slice oad 0 ocap) 0 ((((lparts x).take 0).map prV).flatMap prF) (by rfl) (hown1.alloc (.cells #[.string (txt n), .string (txt v)] 39)) (.slice (some ⟨wr.heap.size, 0, none⟩) 1 1) (by rfl) 1 (prF (n, v)) RLIT.out rfl ONE.out M1.out M2.out HBA.out.size ?_; intro v3 w3 hown3 hg3)
            | fail)
          have HB3 : Hid (Below w1.heap.size w1 w3) := HBA.out.grown hg3 HBA.out.size (fun q e => (hown1.lt q e).1)
          have hown4 : w3.ownsRow w1.heap.size 39 2 v3 (0 + 1) ((((lparts x).take (0 + 1)).map prV).flatMap prF) := by
            rw [HTK.out, List.flatMap_append]
            exact hown3
          obtain ⟨ad3, cap3, rfl⟩ := own_shape hown4
          clear hown hown1 hown3 hg3
          go_wp2_with fail
          go_roundw
          case rel => exact ⟨0 + 1, by omega, by go_num, hown4, HB3, hall2⟩
          case measure => simp [intOf] <;> omega
      · have hk0' : (0 : Int) < (k : Int) := by omega
        have hk0n : ¬ k = 0 := hk0
        have HK0 : Hid _ := hk0
        clear hk0
        cases q with
        | nil =>
          obtain ⟨b1, b2⟩ := HBAD.out k [] HQ.out (by rw [if_neg HK0.out]; exact pr_bad [] (by simp))
          have HZE : Hid _ := b1
          have HZL : Hid _ := b2
          have hq0 : (((txt ([] : List UInt8)).size : Int) == 0) = true := rfl
          clear b1 b2 hown
          go_wp2_with fail
          exact bodyPost_ret (v := .tuple #[.slice none 0 0, .int .i64 1]) (by simp [results, Try.results8, go_sem]) rfl ⟨.slice none 0 0, by rw [HZE.out], by rw [HZL.out]; exact ⟨none, 0, rfl, .inl rfl⟩, next HB1.out hb.out⟩
        | cons c u =>
          by_cases hc32 : c = 32
          · subst hc32
            have hsz : (txt ((32 : UInt8) :: u)).size = u.length + 1 := rfl
            have hq0 : (((txt ((32 : UInt8) :: u)).size : Int) == 0) = false := by rw [beq_eq_false_iff_ne, hsz]; omega
            have hq0' : ¬ (txt ((32 : UInt8) :: u)).size = 0 := by rw [hsz]; omega
            have hz32 : (0 : Int) < ((txt ((32 : UInt8) :: u)).size : Int) := by rw [hsz]; omega
            have hz33 : 0 < (txt ((32 : UInt8) :: u)).size := by rw [hsz]; omega
            have hcn : ((((txt ((32 : UInt8) :: u))[0]'hz33).toNat : Int)) = 32 := rfl
            have x0 : (txt ((32 : UInt8) :: u)).extract 1 (txt ((32 : UInt8) :: u)).size = txt u := by rw [ext_from, txt_toList]; rfl
            have x01 : (1 : Int) ≤ ((txt ((32 : UInt8) :: u)).size : Int) := by rw [hsz]; omega
            have hql2 : (txt u).size ≤ 8000 := by rw [txt_size]; rw [hsz] at hql'; omega
            clear hsz hql'
            obtain ⟨z, hzz⟩ : ∃ z, z = Lib.indexByte u 61 := ⟨_, rfl⟩
            have KP : Hid (∀ W : World, Calls Try.prog 16 #[.string (txt u), .int .u8 61] W fun e w' => e = .returned (.int .i64 z) ∧ w' = W) := fun W => by rw [hzz]; exact placeOf_any (txt u) 61 W (by unfold maxLen; omega)
            have HLQ : Hid ((lparts x)[k]? = some (32 :: u)) := by have h := HAT.out k _ HQ.out; rw [if_neg HK0.out] at h; exact h
            by_cases hz1' : z < 1
            · have HB : prOk (32 :: u) = false := pr_none u (by rw [← hzz]; exact hz1')
              obtain ⟨b1, b2⟩ := HBAD.out k _ HQ.out (by rw [if_neg HK0.out]; exact HB)
              have HZE : Hid _ := b1
              have HZL : Hid _ := b2
              clear b1 b2 hown hzz HB
              go_wp2_with fail
              refine (KP.out _).mono ?_
              rintro e w2 ⟨rfl, hw2⟩
              rw [hw2]
              clear hw2 w2
              go_wp2_with fail
              exact bodyPost_ret (v := .tuple #[.slice none 0 0, .int .i64 1]) (by simp [results, Try.results8, go_sem]) rfl ⟨.slice none 0 0, by rw [HZE.out], by rw [HZL.out]; exact ⟨none, 0, rfl, .inl rfl⟩, next HB1.out hb.out⟩
            · obtain ⟨o, ho⟩ : ∃ o : Nat, z = (o : Int) := ⟨z.toNat, by omega⟩
              subst ho
              obtain ⟨hp1, hp2⟩ := pr_some u o hzz.symm (by omega)
              obtain ⟨_, _, _, hou⟩ := cut_some u 61 o hzz.symm
              obtain ⟨n, hn⟩ : ∃ n, n = u.take o := ⟨_, rfl⟩
              obtain ⟨v, hv⟩ : ∃ v, v = u.drop (o + 1) := ⟨_, rfl⟩
              have HTK : Hid (((lparts x).take (k + 1)).map prV = ((lparts x).take k).map prV ++ [(n, v)]) := by
                show _ = _
                rw [List.take_succ, HLQ.out, List.map_append, hn, hv, ← hp2]; rfl
              have hall2 : Hid (∀ p ∈ (lparts x).take (k + 1), prOk p = true) := fun p hp => by
                rw [List.take_succ, HLQ.out] at hp
                rcases List.mem_append.1 hp with h | h
                · exact hall.out p h
                · have h : p = 32 :: u := by simpa using h
                  rw [h]; exact hp1
              have x1 : (txt u).extract 0 o = txt n := by rw [ext_to, txt_toList, hn]
              have x2 : (txt u).extract (o + 1) (txt u).size = txt v := by rw [ext_from, txt_toList, hv]
              have hos : o < (txt u).size := hou
              have y1 : (o : Int) ≤ ((txt u).size : Int) := by omega
              have y2 : (o : Int) + 1 ≤ ((txt u).size : Int) := by omega
              have y3 : (0 : Int) ≤ (o : Int) + 1 := by omega
              have y4 : ((o : Int) + 1).toNat = o + 1 := by omega
              have y5 : IntKind.i64.wrap ((o : Int) + 1) = (o : Int) + 1 := IntWalk.i64_in _ (by omega)
              have hown1 : wr.drew.ownsRow w1.heap.size 39 2 (.slice oad k ocap) k ((((lparts x).take k).map prV).flatMap prF) := hown
              have hle := hb.out.size
              have HBA : Hid (Below w1.heap.size w1 (wr.drew.alloc (.cells #[.string (txt n), .string (txt v)] 39))) := (hb.out.drew).alloc hle _
              have RLIT : Hid (Reads (wr.drew.alloc (.cells #[.string (txt n), .string (txt v)] 39)) (.slice (some ⟨wr.heap.size, 0, none⟩) 1 1) 1 (prF (n, v))) := ⟨_, 1, rfl, .inr ⟨_, 0, rfl, fun j u' hj => by rw [Nat.zero_add]; exact (World.cell?_alloc_new wr.drew _ 39 j).trans (by simpa [prF] using hj)⟩⟩
              have M1 : Hid (k + 1 ≤ maxLen) := by show _ ≤ _; unfold maxLen; omega
              have M2 : Hid ((k + 1) * 32 ≤ 140737488355328) := by show _ ≤ _; omega
              have ONE : Hid (∀ y ∈ prF (n, v), y.oneCell' = true) := fun y hy => by
                simp only [prF, List.mem_cons, List.not_mem_nil, or_false] at hy
                rcases hy with rfl | rfl <;> rfl
              clear hn hv hp1 hp2 hou hzz hos
              go_wp2_with fail
              refine (KP.out _).mono ?_
              rintro e w2 ⟨rfl, hw2⟩
              rw [hw2]
              clear hw2 w2
              go_wp2_with fail
              go_region_held3 (fun _ => True) (trivial)
                (first
                | (refine step_append_reads (by rfl) (.tmp 43) (.tmp 52) 23 (by rfl) w1.heap.size 39 i0 (.agg #[.string ⟨#[]⟩, .string ⟨#[]⟩]) 2 32 Try.underlying23 hi hz0 hz1 hz2 rfl (by decide) (.slice oad k ocap) k ((((lparts x).take k).map prV).flatMap prF) (by rfl) (hown1.alloc (.cells #[.string (txt n), .string (txt v)] 39)) (.slice (some ⟨wr.heap.size, 0, none⟩) 1 1) (by rfl) 1 (prF (n, v)) RLIT.out rfl ONE.out M1.out M2.out HBA.out.size ?_; intro v3 w3 hown3 hg3)
                | fail)
              have HB3 : Hid (Below w1.heap.size w1 w3) := HBA.out.grown hg3 HBA.out.size (fun q e => (hown1.lt q e).1)
              have hown4 : w3.ownsRow w1.heap.size 39 2 v3 (k + 1) ((((lparts x).take (k + 1)).map prV).flatMap prF) := by
                rw [HTK.out, List.flatMap_append]
                exact hown3
              obtain ⟨ad3, cap3, rfl⟩ := own_shape hown4
              clear hown hown1 hown3 hg3
              go_wp2_with fail
              go_roundw
              case rel => exact ⟨k + 1, by omega, by go_num, hown4, HB3, hall2⟩
              case measure => simp [intOf] <;> omega
          · obtain ⟨b1, b2⟩ := HBAD.out k (c :: u) HQ.out (by rw [if_neg HK0.out]; exact pr_bad (c :: u) (by simp; exact hc32))
            have HZE : Hid _ := b1
            have HZL : Hid _ := b2
            have hsz : (txt (c :: u)).size = u.length + 1 := rfl
            have hq0 : (((txt (c :: u)).size : Int) == 0) = false := by rw [beq_eq_false_iff_ne, hsz]; omega
            have hq0' : ¬ (txt (c :: u)).size = 0 := by rw [hsz]; omega
            have hz32 : (0 : Int) < ((txt (c :: u)).size : Int) := by rw [hsz]; omega
            have hz33 : 0 < (txt (c :: u)).size := by rw [hsz]; omega
            have hcn : ((((txt (c :: u))[0]'hz33).toNat : Int)) = (c.toNat : Int) := rfl
            have hcne : (c.toNat : Int) ≠ 32 := fun e => hc32 (by apply UInt8.toNat_inj.1; show c.toNat = 32; omega)
            have hc1 : ((c.toNat : Int) != 32) = true := by rw [bne_iff_ne]; exact hcne
            have hc2 : ((c.toNat : Int) == 32) = false := by rw [beq_eq_false_iff_ne]; exact hcne
            clear b1 b2 hown hsz hc32
            go_wp2_with fail
            exact bodyPost_ret (v := .tuple #[.slice none 0 0, .int .i64 1]) (by simp [results, Try.results8, go_sem]) rfl ⟨.slice none 0 0, by rw [HZE.out], by rw [HZL.out]; exact ⟨none, 0, rfl, .inl rfl⟩, next HB1.out hb.out⟩
    · have hkl : k = ps.length := by omega
      have HTA : Hid ((lparts x).take k = lparts x) := List.take_of_length_le (by rw [HLEN.out]; omega)
      have HF : Hid ((lparts x).all prOk = true) := by
        show _ = _
        rw [List.all_eq_true]
        intro p hp
        exact hall.out p (by rw [HTA.out]; exact hp)
      rw [HTA.out] at hown
      have HRD : Hid (Reads wr (.slice oad k ocap) k (((lparts x).map prV).flatMap prF)) := Reads.of_own hown
      have HKL : Hid (((lparts x).map prV).length = k) := by show _ = _; rw [List.length_map, HLEN.out, hkl]
      clear hown hkl
      go_wp2_with fail
      refine bodyPost_ret (v := .tuple #[.slice oad k ocap, .int .i64 0]) (by simp [results, Try.results8, go_sem]) rfl ⟨_, by rw [HE.out, HF.out]; rfl, ?_, next HB1.out hb.out⟩
      rw [HL.out, HF.out, if_pos rfl]
      show Reads _ _ _ _
      rw [HKL.out]
      exact HRD.out
end Go.Proofs.Ytoppjfambomdmaa
