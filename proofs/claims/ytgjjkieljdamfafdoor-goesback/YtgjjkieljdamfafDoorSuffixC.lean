/- Contracts: rules laid into a map; where a host's public suffix stands among its ups. -/
import Derived.Test.YtgjjkieljdamfafDoorSuffixB
import Derived.Test.YtgjjkieljdamfafDoorKit4
namespace Go.Proofs.YtgjjkieljdamfafDoor
open Go.RowKit Go.Maps
set_option linter.all false
set_option maxRecDepth 100000

/-- a rule's cells -/
def sufF (r : Int × List UInt8) : List Value := [.int .i64 r.1, .string (txt r.2)]
theorem sufF_len (r : Int × List UInt8) : (sufF r).length = 1 + 1 := rfl
/-- a rule more in the map -/
theorem Holds.put {w w' : World} {B : Nat} {l : Rules} {r : Int × List UInt8} (h : Holds w B l) (hr : okR r)
    (h1 : w'.ownsMap Tryd.prog 63 (unitElem (H := Unit)) B (l.length + 1) ((setOf (.agg []) (l.map (keyP Tryd.prog 63))).put (keyP Tryd.prog 63 r) (.agg []))) : Holds w' B (l ++ [r]) := by
  refine ⟨?_, ?_⟩
  · intro q hq
    rw [List.mem_append, List.mem_singleton] at hq
    rcases hq with hq | rfl
    · exact h.1 q hq
    · exact hr
  · rw [List.length_append, List.map_append, List.map_singleton, setOf_snoc]
    exact h1
theorem suf_many (l : Rules) (h : ¬ l.length ≤ 16) : sufE l = 2 := if_neg h
/-- the map that is answered, if rules may stand together -/
def layM (l : Rules) (B : Nat) : Option Nat := if sufE l = 0 then some B else none
def LayOk (w : World) (l : Rules) (B : Nat) : Prop := sufE l = 0 → Holds w B l
theorem layM_ok {l : Rules} (h : sufE l = 0) (B : Nat) : layM l B = some B := if_pos h
theorem layM_bad {l : Rules} (h : sufE l ≠ 0) (B : Nat) : layM l B = none := if_neg h
set_option maxHeartbeats 4000000 in
theorem lay_any (v : Value) (l : Rules) (w : World) (hr : Rows w v sufF l) (hm : l.length ≤ maxLen) (hok : ∀ r ∈ l, okR r) :
    Calls Tryd.prog 29 #[v] w fun e w' => e = .returned (.tuple #[.map (layM l w.heap.size), .int .i64 (sufE l)]) ∧ LayOk w' l w.heap.size ∧ Below w.heap.size w w' := by
  obtain ⟨ad, cap, rfl⟩ := hr.shape
  unfold maxLen at hm
  by_cases h16 : l.length ≤ 16
  · have HE : Hid (sufE l = layE [] l) := if_pos h16
    have HK : Hid _ := hok
    clear hok
    have hmm := @run_makeMap Tryd.prog
    have hm0 := Holds.made w
    have hb0 : Below w.heap.size w (w.alloc (.map #[] 0)) := (Below.refl _ _).alloc (Nat.le_refl _) _
    go_enter Tryd.func29, Tryd.ntmps29
    go_wp2_with fail
    go_loopw [14] (fun i wr => ∃ k : Nat, k ≤ l.length ∧ i = .int .i64 k ∧ Hid (layE (l.take k) (l.drop k) = layE [] l) ∧ Holds wr w.heap.size (l.take k) ∧ Below w.heap.size w wr) (fun i _ => l.length - (intOf i).toNat)
    case atStart => exact ⟨0, Nat.zero_le _, rfl, rfl, hm0, hb0⟩
    case round =>
      obtain ⟨k, hk, rfl, hl, hh, hb⟩ := hrel
      by_cases hlt : k < l.length
      · obtain ⟨⟨z, s⟩, hrk⟩ : ∃ r, l[k]? = some r := ⟨_, List.getElem?_eq_getElem hlt⟩
        obtain ⟨b, off, rfl, hbl, hc⟩ := hr.at rfl 1 sufF_len k _ hrk
        have c1 := (hb.cell (p := ⟨b, off + k * 2 + 0, none⟩) hbl).trans (hc 0 _ rfl)
        have c2 := (hb.cell (p := ⟨b, off + k * 2 + 1, none⟩) hbl).trans (hc 1 _ rfl)
        rw [Nat.add_zero] at c1
        have hr0 : okR (z, s) := HK.out _ (List.mem_of_getElem? hrk)
        have HS : Hid (okR (z, s)) := hr0
        have HZ : Hid ((txt s).size ≤ maxLen) := hr0.2
        have HG : Hid _ := lay_step l k _ hrk
        have HT : Hid (l.take (k + 1) = l.take k ++ [(z, s)]) := by show _ = _; rw [List.take_succ, hrk]; rfl
        obtain ⟨T, hT⟩ : ∃ T, T = l.take k := ⟨_, rfl⟩
        have HTl : Hid (T.length ≤ k) := by show _ ≤ _; rw [hT]; exact List.length_take_le _ _
        rw [← hT] at hh hl HG HT
        clear hrk hc hr0 hT
        have S0 := S2.new wr z (txt s) 63
        have B0 : Below wr.heap.size wr (wr.alloc (.cells #[.int .i64 z, .string (txt s)] 63)) := (Below.refl _ _).alloc (Nat.le_refl _) _
        have hh0 := hh.below B0 (Nat.le_refl _)
        by_cases he : ruleE (z, s) = 0
        · have H0 : Hid _ := he
          go_wp2_with fail
          refine (checkRule_any z (txt s) _ HZ.out).mono ?_
          rw [txt_toList, H0.out]
          rintro e w1 ⟨rfl, hb1⟩
          have S1 := S0.below hb1 (Nat.le_refl _)
          have hh1 := hh0.below hb1 (Nat.le_refl _)
          obtain ⟨ck, cn⟩ := id S1
          clear he
          cases hc : T.contains (z, s)
          · have HC : Hid _ := hc
            clear hc
            go_wp2_with fail
            refine (has_any _ _ z (txt s) _ hh1 HS.out).mono ?_
            rw [txt_toList, HC.out]
            rintro e w2 ⟨rfl, hb2⟩
            have S3 := S1.below hb2 (Nat.le_refl _)
            have hh2 := hh1.below hb2 (Nat.le_refl _)
            clear ck cn
            obtain ⟨ck, cn⟩ := id S3
            have HO : Hid _ := hh2.2
            have HN : Hid (T.length < maxLen) := by
              show _ < _
              have := HTl.out
              unfold maxLen; omega
            have HY : Hid _ := key_of _ HS.out
            go_wp2_with (at_mapUpdate; refine wpList_mapUpdate_own _ rfl _ _ _ 72 rfl 63 86 slaw Tryd.underlying72 _ w.heap.size _ _ rfl HO.out HN.out _ _ _ rfl rfl HY.out (.agg []) [] unitElem_mk ?_)
            intro w3 hown3 hg3
            go_wp2_with fail
            go_roundw
            case rel =>
              refine ⟨k + 1, by omega, by go_num, ?_, ?_, ?_⟩
              · show _ = _
                have e1 := HG.out
                rw [H0.out, if_pos rfl, HC.out, if_neg (by simp)] at e1
                rw [← e1]; exact hl.out
              · rw [HT.out]
                exact hh2.put HS.out hown3
              · have hbb : Below w.heap.size w w2 := next (next (next hb B0) hb1) hb2
                exact hbb.grown hg3 hbb.size (fun q e => by cases e; exact Nat.le_refl _)
            case measure => simp [intOf]; omega
          · have HC : Hid _ := hc
            have HR : Hid (sufE l = 6) := by
              show _ = _
              rw [HE.out, ← hl.out, HG.out, H0.out, if_pos rfl, hc, if_pos rfl]
            clear hc
            go_wp2_with fail
            refine (has_any _ _ z (txt s) _ hh1 HS.out).mono ?_
            rw [txt_toList, HC.out]
            rintro e w2 ⟨rfl, hb2⟩
            go_wp2_with fail
            go_ret2
            refine ⟨?_, fun h => ?_, next (next (next hb B0) hb1) hb2⟩
            · rw [layM_bad (by rw [HR.out]; decide), HR.out]; rfl
            · rw [HR.out] at h; cases h
        · have HR : Hid (sufE l = ruleE (z, s)) := by
            show _ = _
            rw [HE.out, ← hl.out, HG.out, if_neg he]
          obtain ⟨E, hE⟩ : ∃ E, E = ruleE (z, s) := ⟨_, rfl⟩
          rw [← hE] at he
          have heb : (E != 0) = true := by rw [bne_iff_ne]; exact he
          have hen : Hid (E ≠ 0) := he
          have HX : Hid _ := hE
          clear hE he
          go_wp2_with fail
          refine (checkRule_any z (txt s) _ HZ.out).mono ?_
          rw [txt_toList, ← HX.out]
          rintro e w1 ⟨rfl, hb1⟩
          go_wp2_with fail
          go_ret2
          refine ⟨?_, fun h => ?_, next (next hb B0) hb1⟩
          · rw [layM_bad (by rw [HR.out, ← HX.out]; exact hen.out), HR.out, ← HX.out]; rfl
          · rw [HR.out, ← HX.out] at h; exact absurd h hen.out
      · have HR : Hid (sufE l = 0) := by show _ = _; rw [HE.out, ← hl.out, lay_end l k (by omega)]
        have HT : Hid (l.take k = l) := List.take_of_length_le (by omega)
        go_wp2_with fail
        go_ret2
        refine ⟨?_, fun _ => ?_, hb⟩
        · rw [layM_ok HR.out, HR.out]; rfl
        · rw [HT.out] at hh; exact hh
  · have HR : Hid (sufE l = 2) := suf_many l h16
    go_enter Tryd.func29, Tryd.ntmps29
    go_wp2_with fail
    go_ret2
    refine ⟨?_, fun h => ?_, Below.refl _ _⟩
    · rw [layM_bad (by rw [HR.out]; decide), HR.out]; rfl
    · rw [HR.out] at h; cases h
end Go.Proofs.YtgjjkieljdamfafDoor
