/- The contracts of the reference's noMoments and JarCheck. The contracts of the reference's GateOf and PurgeOf. -/
import Derived.Test.YtcfdajaideidkaaXD
import Derived.Test.YtcfdajaideidkaaXR
import Derived.Test.YtcfdajaideidkaaKit3
import Derived.Deep.RegionWith
import Derived.Test.YtcfdajaideidkaaXC
import Derived.Test.YtcfdajaideidkaaXI
namespace Go.Proofs.Ytcfdajaideidkaa
open Go.RowKit
set_option linter.all false
set_option maxRecDepth 100000
set_option maxRecDepth 100000

set_option maxHeartbeats 2000000 in
theorem noMoments_any (c : Ck) (w : World) : Calls Try.prog 55 #[.agg #[.string (txt c.name), .string (txt c.value), .string (txt c.domain), .string (txt c.path), .bool c.hostOnly, .bool c.secure, .bool c.httpOnly, .bool c.lasting, .int .i64 c.site, .int .i64 c.expiry, .int .i64 c.created, .int .i64 c.used, .int .i64 c.no]] w fun e w' => e = .returned (.bool (!momB c.created || !momB c.used)) ∧ Below w.heap.size w w' := by
  have HB : Hid (∀ x, Below w.heap.size w (w.alloc x)) := fun x => below_new _ _
  obtain ⟨m1, h1⟩ : ∃ q, q = momB c.created := ⟨_, rfl⟩
  obtain ⟨m2, h2⟩ : ∃ q, q = momB c.used := ⟨_, rfl⟩
  have K1 : Hid (∀ w', Calls Try.prog 28 #[.int .i64 c.created] w' fun e w'' => e = .returned (.bool (!m1)) ∧ w'' = w') := fun w' => by rw [h1]; exact noMoment_any _ _
  have K2 : Hid (∀ w', Calls Try.prog 28 #[.int .i64 c.used] w' fun e w'' => e = .returned (.bool (!m2)) ∧ w'' = w') := fun w' => by rw [h2]; exact noMoment_any _ _
  rw [← h1, ← h2]
  clear h1 h2
  cases m1
  · go_enter Try.func55, Try.ntmps55
    go_wp2_with fail
    refine (K1.out _).mono ?_
    rintro e w1 ⟨rfl, hw1⟩
    rw [hw1]
    clear hw1 w1
    go_wp2_with fail
    go_ret
    exact ⟨rfl, HB.out _⟩
  · cases m2 <;> (
      go_enter Try.func55, Try.ntmps55
      go_wp2_with fail
      refine (K1.out _).mono ?_
      rintro e w1 ⟨rfl, hw1⟩
      rw [hw1]
      clear hw1 w1
      go_wp2_with fail
      refine (K2.out _).mono ?_
      rintro e w2 ⟨rfl, hw2⟩
      rw [hw2]
      clear hw2 w2
      go_wp2_with fail
      go_ret
      exact ⟨rfl, HB.out _⟩)
set_option maxHeartbeats 16000000 in
theorem jarCheckOf_any (j : Ja) (v : Value) (w : World) (hr : Rows w v ckC j.cks) (ho : JaOk 140737488351232 j) :
    Calls Try.prog 25 #[.agg #[v, .int .i64 j.next]] w fun e w' => e = .returned (.int .i64 (chJ j)) ∧ Below w.heap.size w w' := by
  obtain ⟨ad, cap, rfl⟩ := hr.shape
  obtain ⟨z, hz⟩ : ∃ z, z = chJ j := ⟨_, rfl⟩
  rw [← hz]
  have HZ : Hid _ := hz
  obtain ⟨nx, hnx⟩ : ∃ nx, nx = j.next := ⟨_, rfl⟩
  have HNX : Hid _ := hnx
  obtain ⟨l, hl⟩ : ∃ l, l = j.cks := ⟨_, rfl⟩
  have HL : Hid _ := hl
  have hm : l.length ≤ 140737488351232 := by rw [hl]; exact ho.len
  have hi := ho.next
  rw [← hnx] at hi ⊢
  rw [← hl] at hr ⊢
  obtain ⟨n, hn⟩ : ∃ n, n = l.length := ⟨_, rfl⟩
  have HN : Hid _ := hn
  rw [← hn] at hm ⊢
  have HR : Hid (Rows w (.slice ad n cap) ckC l) := by rw [HN.out]; exact hr
  unfold i64B at hi
  obtain ⟨W0, hW0⟩ : ∃ W0, W0 = w.alloc (.cells #[.slice ad n cap, .int .i64 nx] 24) := ⟨_, rfl⟩
  have S0 : Hid (Below w.heap.size w W0) := by rw [hW0]; exact below_new _ _
  have J0 : Hid (QB W0 w.heap.size [.slice ad n cap, .int .i64 nx]) := by rw [hW0]; exact QB.new w [.slice ad n cap, .int .i64 nx] 24
  have HW0 : Hid _ := hW0
  clear hz hnx hl hn hr ho hW0
  go_enter Try.func25, Try.ntmps25
  go_upto_region 1 with fail
  rw [← HW0.out]
  clear HW0
  have p0 := J0.out.row.cell 0 rfl
  by_cases h12 : 12 < n
  · have HZ2 : Hid (z = 2) := by show _ = _; rw [HZ.out]; unfold chJ; rw [if_pos (by rw [← HL.out, ← HN.out]; exact h12)]
    go_wp2_with fail
    go_ret
    exact ⟨by rw [HZ2.out]; rfl, S0.out⟩
  have HZ1 : Hid (z = if chKs nx [] l = 0 then (if nx < 0 ∨ 1099511627776 < nx then 3 else 0) else chKs nx [] l) := by show _ = _; rw [HZ.out]; unfold chJ; rw [if_neg (by rw [← HL.out, ← HN.out]; exact h12), ← HL.out, ← HNX.out]
  go_wp2_with fail
  clear p0
  go_loopw [3] (fun i wr => ∃ k : Nat, k ≤ n ∧ i = .int .i64 (k : Int) ∧ Hid (∀ (q : Nat) x, q < k → l[q]? = some x → chK nx (l.take q) x = 0) ∧ Hid (Below W0.heap.size W0 wr)) (fun i _ => n - (intOf i).toNat)
  case atStart => exact ⟨0, Nat.zero_le _, rfl, fun _ _ h _ => absurd h (by omega), Below.refl _ _⟩
  case round =>
    obtain ⟨k, hk, rfl, hall, hb⟩ := hrel
    have Jr : Hid (QB wr w.heap.size [.slice ad n cap, .int .i64 nx]) := J0.out.below hb.out
    have Sr : Hid (Below w.heap.size w wr) := next S0.out hb.out
    by_cases hlt : k < n
    · obtain ⟨c, e1⟩ : ∃ r, l[k]? = some r := ⟨_, List.getElem?_eq_getElem (by rw [← HN.out]; exact hlt)⟩
      obtain ⟨bl, ol, had, hbl, hcell⟩ := Rows.at HR.out rfl 12 (fun _ => rfl) k c e1
      subst had
      have cc : ∀ i u, (ckC c)[i]? = some u → wr.cell? ⟨bl, ol + k * 13 + i, none⟩ = some u := fun i u h => (Sr.out.cell (p := ⟨bl, ol + k * 13 + i, none⟩) hbl).trans (hcell i u h)
      have c0 := cc 0 _ rfl
      have c1 := cc 1 _ rfl
      have c2 := cc 2 _ rfl
      have c3 := cc 3 _ rfl
      have c4 := cc 4 _ rfl
      have c5 := cc 5 _ rfl
      have c6 := cc 6 _ rfl
      have c7 := cc 7 _ rfl
      have c8 := cc 8 _ rfl
      have c9 := cc 9 _ rfl
      have c10 := cc 10 _ rfl
      have c11 := cc 11 _ rfl
      have c12 := cc 12 _ rfl
      rw [Nat.add_zero] at c0
      have y0 := Jr.out.row.cell 0 rfl
      obtain ⟨y, hy⟩ : ∃ y, y = chK nx (l.take k) c := ⟨_, rfl⟩
      obtain ⟨m1, hm1⟩ : ∃ q, q = (!momB c.created || !momB c.used) := ⟨_, rfl⟩
      have HM1 : Hid (m1 = true ↔ (momB c.created = false ∨ momB c.used = false)) := by
        show _ ↔ _
        rw [hm1]; cases momB c.created <;> cases momB c.used <;> simp
      have KM : Hid (∀ w', Calls Try.prog 55 #[.agg #[.string (txt c.name), .string (txt c.value), .string (txt c.domain), .string (txt c.path), .bool c.hostOnly, .bool c.secure, .bool c.httpOnly, .bool c.lasting, .int .i64 c.site, .int .i64 c.expiry, .int .i64 c.created, .int .i64 c.used, .int .i64 c.no]] w' fun e w'' => e = .returned (.bool m1) ∧ Below w'.heap.size w' w'') := fun w' => by rw [hm1]; exact noMoments_any c w'
      have HY : Hid (y = if momB c.created = false ∨ momB c.used = false then 3 else if c.no < 0 ∨ nx ≤ c.no then 4 else if twiceB (l.take k) c then 6 else if 4 < perD (l.take k) c.domain + 1 then 2 else 0) := by
        show _ = _; rw [hy]; rfl
      have HE : Hid _ := e1
      have HZY : Hid (¬ y = 0 → z = y) := fun hy0 => by
        have h := chKs_at nx l k c e1 (fun q x hq hx => hall.out q x hq hx)
        rw [← hy, if_neg hy0] at h
        rw [HZ1.out, h, if_neg hy0]
      have HA : Hid (y = 0 → ∀ (q : Nat) x, q < k + 1 → l[q]? = some x → chK nx (l.take q) x = 0) := fun hy0 q x hq hx => by
        by_cases e : q = k
        · subst e
          rw [e1] at hx
          injection hx with hx
          rw [← hx, ← hy]; exact hy0
        · exact hall.out q x (by omega) hx
      obtain ⟨W2, hW2⟩ : ∃ W2, W2 = wr.alloc (.cells #[.string (txt c.name), .string (txt c.value), .string (txt c.domain), .string (txt c.path), .bool c.hostOnly, .bool c.secure, .bool c.httpOnly, .bool c.lasting, .int .i64 c.site, .int .i64 c.expiry, .int .i64 c.created, .int .i64 c.used, .int .i64 c.no] 34) := ⟨_, rfl⟩
      have hb2 : Below wr.heap.size wr W2 := by rw [hW2]; exact below_new _ _
      have C2 : Hid (KB W2 wr.heap.size c) := by rw [hW2]; exact KB.new wr c 34
      have J2 : Hid (QB W2 w.heap.size [.slice (some ⟨bl, ol, none⟩) n cap, .int .i64 nx]) := Jr.out.below hb2
      have S2 : Hid (Below W0.heap.size W0 W2) := next hb.out hb2
      have HW2 : Hid _ := hW2
      clear e1 hcell hbl cc hy hm1 hW2 hb2
      go_upto_region 7 with fail
      rw [← HW2.out]
      clear HW2 y0 c0 c1 c2 c3 c4 c5 c6 c7 c8 c9 c10 c11 c12
      have x0 := C2.out.row.cell 0 rfl
      have x1 := C2.out.row.cell 1 rfl
      have x2 := C2.out.row.cell 2 rfl
      have x3 := C2.out.row.cell 3 rfl
      have x4 := C2.out.row.cell 4 rfl
      have x5 := C2.out.row.cell 5 rfl
      have x6 := C2.out.row.cell 6 rfl
      have x7 := C2.out.row.cell 7 rfl
      have x8 := C2.out.row.cell 8 rfl
      have x9 := C2.out.row.cell 9 rfl
      have x10 := C2.out.row.cell 10 rfl
      have x11 := C2.out.row.cell 11 rfl
      have x12 := C2.out.row.cell 12 rfl
      go_wp2_with fail
      refine (KM.out _).mono ?_
      rintro e W3 ⟨rfl, hb3⟩
      have C3 : Hid (KB W3 wr.heap.size c) := C2.out.below hb3
      have J3 : Hid (QB W3 w.heap.size [.slice (some ⟨bl, ol, none⟩) n cap, .int .i64 nx]) := J2.out.below hb3
      have S3 : Hid (Below W0.heap.size W0 W3) := next S2.out hb3
      clear hb3 C2 J2 S2 KM x0 x1 x2 x3 x4 x5 x6 x7 x8 x9 x10 x11 x12
      cases m1
      rotate_left
      · have hy3 : y = 3 := by rw [HY.out, if_pos (HM1.out.1 rfl)]
        have HZ3 : Hid (z = 3) := by show _ = _; rw [HZY.out (by rw [hy3]; decide), hy3]
        clear hy3
        go_wp2_with fail
        go_ret
        exact ⟨by rw [HZ3.out]; rfl, next S0.out S3.out⟩
      have HY1 : Hid (y = if c.no < 0 ∨ nx ≤ c.no then 4 else if twiceB (l.take k) c then 6 else if 4 < perD (l.take k) c.domain + 1 then 2 else 0) := by
        show _ = _; rw [HY.out, if_neg (fun h => by have := HM1.out.2 h; cases this)]
      have x12 := C3.out.row.cell 12 rfl
      have y1 := J3.out.row.cell 1 rfl
      by_cases g1 : c.no < 0
      · have hy3 : y = 4 := by rw [HY1.out, if_pos (.inl g1)]
        have HZ3 : Hid (z = 4) := by show _ = _; rw [HZY.out (by rw [hy3]; decide), hy3]
        clear hy3
        go_wp2_with fail
        go_ret
        exact ⟨by rw [HZ3.out]; rfl, next S0.out S3.out⟩
      by_cases g2 : nx ≤ c.no
      · have hy3 : y = 4 := by rw [HY1.out, if_pos (.inr g2)]
        have HZ3 : Hid (z = 4) := by show _ = _; rw [HZY.out (by rw [hy3]; decide), hy3]
        clear hy3
        go_wp2_with fail
        go_ret
        exact ⟨by rw [HZ3.out]; rfl, next S0.out S3.out⟩
      have HY2 : Hid (y = if twiceB (l.take k) c then 6 else if 4 < perD (l.take k) c.domain + 1 then 2 else 0) := by
        show _ = _; rw [HY1.out, if_neg (by omega)]
      go_wp2_with fail
      clear x12 y1
      go_loopw [5, 6] (fun pr i wr2 => ∃ q : Nat, q ≤ k ∧ i = .int .i64 (q : Int) ∧ pr = .int .i64 ((perD (l.take q) c.domain + 1 : Nat) : Int) ∧ Hid (∀ (r : Nat) y, r < q → l[r]? = some y → sameK y c = false ∧ y.no ≠ c.no) ∧ Hid (Below W3.heap.size W3 wr2)) (fun _ i _ => k - (intOf i).toNat)
      case atStart => exact ⟨0, Nat.zero_le _, rfl, rfl, fun _ _ h => absurd h (by omega), Below.refl _ _⟩
      case round =>
        rename World => wr2
        obtain ⟨q, hq, rfl, rfl, hin, hb4⟩ := hrel
        have C4 : Hid (KB wr2 wr.heap.size c) := C3.out.below hb4.out
        have J4 : Hid (QB wr2 w.heap.size [.slice (some ⟨bl, ol, none⟩) n cap, .int .i64 nx]) := J3.out.below hb4.out
        have S4 : Hid (Below W0.heap.size W0 wr2) := next S3.out hb4.out
        have HP4 : Hid (perD (l.take q) c.domain ≤ q) := Nat.le_trans (perD_le _ _) (by rw [List.length_take]; omega)
        by_cases hqk : q < k
        · obtain ⟨yy, e2⟩ : ∃ r, l[q]? = some r := ⟨_, List.getElem?_eq_getElem (by rw [← HN.out]; omega)⟩
          obtain ⟨bm, om, had2, hbm, hcm⟩ := Rows.at HR.out rfl 12 (fun _ => rfl) q yy e2
          injection had2 with had2
          injection had2 with h1 h2
          subst h1 h2
          have Sw : Hid (Below w.heap.size w wr2) := next S0.out S4.out
          have ee0 : wr2.cell? ⟨bl, ol + q * 13, none⟩ = some (.string (txt yy.name)) := by have t := (Sw.out.cell (p := ⟨bl, ol + q * 13 + 0, none⟩) hbm).trans (hcm 0 _ rfl); rw [Nat.add_zero] at t; exact t
          have ee1 : wr2.cell? ⟨bl, ol + q * 13 + 1, none⟩ = some (.string (txt yy.value)) := (Sw.out.cell (p := ⟨bl, ol + q * 13 + 1, none⟩) hbm).trans (hcm 1 _ rfl)
          have ee2 : wr2.cell? ⟨bl, ol + q * 13 + 2, none⟩ = some (.string (txt yy.domain)) := (Sw.out.cell (p := ⟨bl, ol + q * 13 + 2, none⟩) hbm).trans (hcm 2 _ rfl)
          have ee3 : wr2.cell? ⟨bl, ol + q * 13 + 3, none⟩ = some (.string (txt yy.path)) := (Sw.out.cell (p := ⟨bl, ol + q * 13 + 3, none⟩) hbm).trans (hcm 3 _ rfl)
          have ee4 : wr2.cell? ⟨bl, ol + q * 13 + 4, none⟩ = some (.bool yy.hostOnly) := (Sw.out.cell (p := ⟨bl, ol + q * 13 + 4, none⟩) hbm).trans (hcm 4 _ rfl)
          have ee5 : wr2.cell? ⟨bl, ol + q * 13 + 5, none⟩ = some (.bool yy.secure) := (Sw.out.cell (p := ⟨bl, ol + q * 13 + 5, none⟩) hbm).trans (hcm 5 _ rfl)
          have ee6 : wr2.cell? ⟨bl, ol + q * 13 + 6, none⟩ = some (.bool yy.httpOnly) := (Sw.out.cell (p := ⟨bl, ol + q * 13 + 6, none⟩) hbm).trans (hcm 6 _ rfl)
          have ee7 : wr2.cell? ⟨bl, ol + q * 13 + 7, none⟩ = some (.bool yy.lasting) := (Sw.out.cell (p := ⟨bl, ol + q * 13 + 7, none⟩) hbm).trans (hcm 7 _ rfl)
          have ee8 : wr2.cell? ⟨bl, ol + q * 13 + 8, none⟩ = some (.int .i64 yy.site) := (Sw.out.cell (p := ⟨bl, ol + q * 13 + 8, none⟩) hbm).trans (hcm 8 _ rfl)
          have ee9 : wr2.cell? ⟨bl, ol + q * 13 + 9, none⟩ = some (.int .i64 yy.expiry) := (Sw.out.cell (p := ⟨bl, ol + q * 13 + 9, none⟩) hbm).trans (hcm 9 _ rfl)
          have ee10 : wr2.cell? ⟨bl, ol + q * 13 + 10, none⟩ = some (.int .i64 yy.created) := (Sw.out.cell (p := ⟨bl, ol + q * 13 + 10, none⟩) hbm).trans (hcm 10 _ rfl)
          have ee11 : wr2.cell? ⟨bl, ol + q * 13 + 11, none⟩ = some (.int .i64 yy.used) := (Sw.out.cell (p := ⟨bl, ol + q * 13 + 11, none⟩) hbm).trans (hcm 11 _ rfl)
          have ee12 : wr2.cell? ⟨bl, ol + q * 13 + 12, none⟩ = some (.int .i64 yy.no) := (Sw.out.cell (p := ⟨bl, ol + q * 13 + 12, none⟩) hbm).trans (hcm 12 _ rfl)
          have d0 : ∀ x : Ext wr2, x.1.cell? ⟨bl, ol + q * 13, none⟩ = some (.string (txt yy.name)) := Ext.cell ee0
          have d1 : ∀ x : Ext wr2, x.1.cell? ⟨bl, ol + q * 13 + 1, none⟩ = some (.string (txt yy.value)) := Ext.cell ee1
          have d2 : ∀ x : Ext wr2, x.1.cell? ⟨bl, ol + q * 13 + 2, none⟩ = some (.string (txt yy.domain)) := Ext.cell ee2
          have d3 : ∀ x : Ext wr2, x.1.cell? ⟨bl, ol + q * 13 + 3, none⟩ = some (.string (txt yy.path)) := Ext.cell ee3
          have d4 : ∀ x : Ext wr2, x.1.cell? ⟨bl, ol + q * 13 + 4, none⟩ = some (.bool yy.hostOnly) := Ext.cell ee4
          have d5 : ∀ x : Ext wr2, x.1.cell? ⟨bl, ol + q * 13 + 5, none⟩ = some (.bool yy.secure) := Ext.cell ee5
          have d6 : ∀ x : Ext wr2, x.1.cell? ⟨bl, ol + q * 13 + 6, none⟩ = some (.bool yy.httpOnly) := Ext.cell ee6
          have d7 : ∀ x : Ext wr2, x.1.cell? ⟨bl, ol + q * 13 + 7, none⟩ = some (.bool yy.lasting) := Ext.cell ee7
          have d8 : ∀ x : Ext wr2, x.1.cell? ⟨bl, ol + q * 13 + 8, none⟩ = some (.int .i64 yy.site) := Ext.cell ee8
          have d9 : ∀ x : Ext wr2, x.1.cell? ⟨bl, ol + q * 13 + 9, none⟩ = some (.int .i64 yy.expiry) := Ext.cell ee9
          have d10 : ∀ x : Ext wr2, x.1.cell? ⟨bl, ol + q * 13 + 10, none⟩ = some (.int .i64 yy.created) := Ext.cell ee10
          have d11 : ∀ x : Ext wr2, x.1.cell? ⟨bl, ol + q * 13 + 11, none⟩ = some (.int .i64 yy.used) := Ext.cell ee11
          have d12 : ∀ x : Ext wr2, x.1.cell? ⟨bl, ol + q * 13 + 12, none⟩ = some (.int .i64 yy.no) := Ext.cell ee12
          have x0 : ∀ x : Ext wr2, x.1.cell? ⟨wr.heap.size, 0, none⟩ = some (.string (txt c.name)) := Ext.cell (C4.out.row.cell 0 rfl)
          have x1 : ∀ x : Ext wr2, x.1.cell? ⟨wr.heap.size, 1, none⟩ = some (.string (txt c.value)) := Ext.cell (C4.out.row.cell 1 rfl)
          have x2 : ∀ x : Ext wr2, x.1.cell? ⟨wr.heap.size, 2, none⟩ = some (.string (txt c.domain)) := Ext.cell (C4.out.row.cell 2 rfl)
          have x3 : ∀ x : Ext wr2, x.1.cell? ⟨wr.heap.size, 3, none⟩ = some (.string (txt c.path)) := Ext.cell (C4.out.row.cell 3 rfl)
          have x4 : ∀ x : Ext wr2, x.1.cell? ⟨wr.heap.size, 4, none⟩ = some (.bool c.hostOnly) := Ext.cell (C4.out.row.cell 4 rfl)
          have x5 : ∀ x : Ext wr2, x.1.cell? ⟨wr.heap.size, 5, none⟩ = some (.bool c.secure) := Ext.cell (C4.out.row.cell 5 rfl)
          have x6 : ∀ x : Ext wr2, x.1.cell? ⟨wr.heap.size, 6, none⟩ = some (.bool c.httpOnly) := Ext.cell (C4.out.row.cell 6 rfl)
          have x7 : ∀ x : Ext wr2, x.1.cell? ⟨wr.heap.size, 7, none⟩ = some (.bool c.lasting) := Ext.cell (C4.out.row.cell 7 rfl)
          have x8 : ∀ x : Ext wr2, x.1.cell? ⟨wr.heap.size, 8, none⟩ = some (.int .i64 c.site) := Ext.cell (C4.out.row.cell 8 rfl)
          have x9 : ∀ x : Ext wr2, x.1.cell? ⟨wr.heap.size, 9, none⟩ = some (.int .i64 c.expiry) := Ext.cell (C4.out.row.cell 9 rfl)
          have x10 : ∀ x : Ext wr2, x.1.cell? ⟨wr.heap.size, 10, none⟩ = some (.int .i64 c.created) := Ext.cell (C4.out.row.cell 10 rfl)
          have x11 : ∀ x : Ext wr2, x.1.cell? ⟨wr.heap.size, 11, none⟩ = some (.int .i64 c.used) := Ext.cell (C4.out.row.cell 11 rfl)
          have x12 : ∀ x : Ext wr2, x.1.cell? ⟨wr.heap.size, 12, none⟩ = some (.int .i64 c.no) := Ext.cell (C4.out.row.cell 12 rfl)
          clear ee0 ee1 ee2 ee3 ee4 ee5 ee6 ee7 ee8 ee9 ee10 ee11 ee12
          have y0 : ∀ x : Ext wr2, x.1.cell? ⟨w.heap.size, 0, none⟩ = some (.slice (some ⟨bl, ol, none⟩) n cap) := Ext.cell (J4.out.row.cell 0 rfl)
          obtain ⟨b, hbq⟩ : ∃ b, b = sameK yy c := ⟨_, rfl⟩
          have KS : Hid (∀ w', Calls Try.prog 48 #[.agg #[.string (txt yy.name), .string (txt yy.value), .string (txt yy.domain), .string (txt yy.path), .bool yy.hostOnly, .bool yy.secure, .bool yy.httpOnly, .bool yy.lasting, .int .i64 yy.site, .int .i64 yy.expiry, .int .i64 yy.created, .int .i64 yy.used, .int .i64 yy.no], .agg #[.string (txt c.name), .string (txt c.value), .string (txt c.domain), .string (txt c.path), .bool c.hostOnly, .bool c.secure, .bool c.httpOnly, .bool c.lasting, .int .i64 c.site, .int .i64 c.expiry, .int .i64 c.created, .int .i64 c.used, .int .i64 c.no]] w' fun e w'' => e = .returned (.bool b) ∧ Below w'.heap.size w' w'') := fun w' => by rw [hbq]; exact sameKey_any yy c w'
          have HBQ : Hid _ := hbq
          have HE2 : Hid _ := e2
          have hbo : bl = bl := rfl
          obtain ⟨nb, hnb⟩ : ∃ b, b = (yy.no == c.no) := ⟨_, rfl⟩
          have HNB : Hid _ := hnb
          have hnq : (yy.no == c.no) = nb := hnb.symm
          have t1 : ∀ x y : List UInt8, ((txt x).toList == (txt y).toList) = (x == y) := fun x y => by rw [Lib.toList_data, Lib.toList_data]; rfl
          have t2 := t1 yy.domain c.domain
          obtain ⟨db, hdb⟩ : ∃ b, b = (yy.domain == c.domain) := ⟨_, rfl⟩
          have HDB : Hid (db = true ↔ yy.domain = c.domain) := by show _ ↔ _; rw [hdb, beq_iff_eq]
          rw [← hdb] at t2
          have HTW : Hid (b = true ∨ nb = true → twiceB (l.take k) c = true) := fun h => by
            have hmem : yy ∈ l.take k := by
              rw [List.mem_take_iff_getElem]
              have hl' := (List.getElem?_eq_some_iff.1 e2)
              obtain ⟨hl1, hl2⟩ := hl'
              exact ⟨q, by omega, hl2⟩
            unfold twiceB
            rw [Bool.or_eq_true, List.any_eq_true, List.any_eq_true]
            rcases h with h | h
            · exact .inl ⟨yy, hmem, by rw [← hbq]; exact h⟩
            · exact .inr ⟨yy, hmem, by rw [← hnb]; exact h⟩
          have HTK : Hid (perD (l.take (q + 1)) c.domain = perD (l.take q) c.domain + if yy.domain = c.domain then 1 else 0) := by
            show _ = _; rw [List.take_succ, e2]; exact perD_snoc _ _ _
          clear e2 hcm hbm hbq hnb hdb t1 hbo
          have hqn : q < n := by omega
          cases b
          rotate_left
          · have hy3 : y = 6 := by rw [HY2.out, if_pos (HTW.out (.inl rfl))]
            have HZ3 : Hid (z = 6) := by show _ = _; rw [HZY.out (by rw [hy3]; decide), hy3]
            clear hy3
            have z0 : wr2.cell? ⟨w.heap.size, 0, none⟩ = some (.slice (some ⟨bl, ol, none⟩) n cap) := J4.out.row.cell 0 rfl
            go_upto_region 15 with fail
            clear z0
            refine wp_region_ext (by kernel_rfl) (by kernel_rfl) ?_
            repeat (go_big_quiet_step (first | rfl | (go_at_call 48; exact ext_call (KS.out _))))
            refine wpQuiet_nil ?_
            intro wx hwx
            obtain ⟨x, rfl⟩ := hwx
            have HS5 : Hid (Below wr2.heap.size wr2 x.1) := x.2
            go_wp2_with fail
            go_ret
            exact ⟨by rw [HZ3.out]; rfl, next S0.out (next S4.out HS5.out)⟩
          cases nb
          rotate_left
          · have hy3 : y = 6 := by rw [HY2.out, if_pos (HTW.out (.inr rfl))]
            have HZ3 : Hid (z = 6) := by show _ = _; rw [HZY.out (by rw [hy3]; decide), hy3]
            clear hy3
            have z0 : wr2.cell? ⟨w.heap.size, 0, none⟩ = some (.slice (some ⟨bl, ol, none⟩) n cap) := J4.out.row.cell 0 rfl
            go_upto_region 15 with fail
            clear z0
            refine wp_region_ext (by kernel_rfl) (by kernel_rfl) ?_
            repeat (go_big_quiet_step (first | rfl | (go_at_call 48; exact ext_call (KS.out _))))
            refine wpQuiet_nil ?_
            intro wx hwx
            obtain ⟨x, rfl⟩ := hwx
            have HS5 : Hid (Below wr2.heap.size wr2 x.1) := x.2
            go_wp2_with fail
            go_ret
            exact ⟨by rw [HZ3.out]; rfl, next S0.out (next S4.out HS5.out)⟩
          have z0 : wr2.cell? ⟨w.heap.size, 0, none⟩ = some (.slice (some ⟨bl, ol, none⟩) n cap) := J4.out.row.cell 0 rfl
          go_upto_region 15 with fail
          clear z0
          refine wp_region_ext (by kernel_rfl) (by kernel_rfl) ?_
          repeat (go_big_quiet_step (first | rfl | (go_at_call 48; exact ext_call (KS.out _))))
          refine wpQuiet_nil ?_
          intro wx hwx
          obtain ⟨x, rfl⟩ := hwx
          have HS5 : Hid (Below wr2.heap.size wr2 x.1) := x.2
          clear KS
          have HIN : Hid (∀ (r : Nat) y, r < q + 1 → l[r]? = some y → sameK y c = false ∧ y.no ≠ c.no) := fun r y hr hy => by
            by_cases e : r = q
            · subst e
              rw [HE2.out] at hy
              injection hy with hy
              rw [← hy]
              exact ⟨HBQ.out.symm, by have := HNB.out; intro h; rw [h] at this; simp at this⟩
            · exact hin.out r y (by omega) hy
          have z0 := y0 x
          have z2 := d2 x
          have z3 := x2 x
          clear y0 d0 x0 d1 x1 d2 x2 d3 x3 d4 x4 d5 x5 d6 x6 d7 x7 d8 x8 d9 x9 d10 x10 d11 x11 d12 x12
          have hpq : perD (l.take q) c.domain ≤ q := HP4.out
          go_upto_region 17 with fail
          cases db
          · have HTK2 : Hid (perD (l.take (q + 1)) c.domain = perD (l.take q) c.domain) := by
              show _ = _; rw [HTK.out, if_neg (fun h => by have := HDB.out.2 h; cases this), Nat.add_zero]
            go_region
            go_wp2_with fail
            go_roundw
            case rel => exact ⟨q + 1, by omega, by go_num, by rw [HTK2.out], HIN, (next hb4.out HS5.out).drew⟩
            case measure => simp [intOf]; omega
          · have HTK2 : Hid (perD (l.take (q + 1)) c.domain = perD (l.take q) c.domain + 1) := by
              show _ = _; rw [HTK.out, if_pos (HDB.out.1 rfl)]
            go_region
            go_wp2_with fail
            go_roundw
            case rel => exact ⟨q + 1, by omega, by go_num, by rw [HTK2.out]; go_num, HIN, (next hb4.out HS5.out).drew⟩
            case measure => simp [intOf]; omega
        · obtain rfl : q = k := by omega
          have HTF : Hid (twiceB (l.take q) c = false) := by
            show _ = _
            unfold twiceB
            rw [Bool.or_eq_false_iff, List.any_eq_false, List.any_eq_false]
            refine ⟨fun y hy => ?_, fun y hy => ?_⟩
            · obtain ⟨r, hr1, hr2⟩ := List.mem_take_iff_getElem.1 hy
              have := (hin.out r y (by omega) (by rw [List.getElem?_eq_getElem (by omega), hr2])).1
              simp [this]
            · obtain ⟨r, hr1, hr2⟩ := List.mem_take_iff_getElem.1 hy
              have := (hin.out r y (by omega) (by rw [List.getElem?_eq_getElem (by omega), hr2])).2
              simp [this]
          obtain ⟨pp, hpp⟩ : ∃ x, x = perD (l.take q) c.domain := ⟨_, rfl⟩
          have HY3 : Hid (y = if 4 < pp + 1 then 2 else 0) := by
            show _ = _; rw [HY2.out, if_neg (by rw [HTF.out]; decide), ← hpp]
          have hpq : pp ≤ 12 := by have := HP4.out; rw [← hpp] at this; omega
          rw [← hpp]
          clear hpp
          by_cases h4 : 4 < pp + 1
          · have hy3 : y = 2 := by rw [HY3.out, if_pos h4]
            have HZ3 : Hid (z = 2) := by show _ = _; rw [HZY.out (by rw [hy3]; decide), hy3]
            clear hy3
            go_wp2_with fail
            go_ret
            exact ⟨by rw [HZ3.out]; rfl, next S0.out S4.out⟩
          · have hy0 : y = 0 := by rw [HY3.out, if_neg h4]
            have HA2 : Hid _ := HA.out hy0
            clear hy0
            go_wp2_with fail
            go_roundw
            case rel => exact ⟨q + 1, by omega, by go_num, HA2, S4⟩
            case measure => simp [intOf]; omega
    · have HZ3 : Hid (z = if nx < 0 ∨ 1099511627776 < nx then 3 else 0) := by
        show _ = _
        rw [HZ1.out, if_pos (chKs_all nx l fun q x hx => hall.out q x (by have := (List.getElem?_eq_some_iff.1 hx).1; rw [← HN.out] at this; omega) hx)]
      have y0 := Jr.out.row.cell 0 rfl
      have y1 := Jr.out.row.cell 1 rfl
      by_cases g1 : nx < 0
      · have HZ4 : Hid (z = 3) := by show _ = _; rw [HZ3.out, if_pos (.inl g1)]
        go_wp2_with fail
        go_ret
        exact ⟨by rw [HZ4.out]; rfl, Sr.out⟩
      by_cases g2 : 1099511627776 < nx
      · have HZ4 : Hid (z = 3) := by show _ = _; rw [HZ3.out, if_pos (.inr g2)]
        go_wp2_with fail
        go_ret
        exact ⟨by rw [HZ4.out]; rfl, Sr.out⟩
      have HZ4 : Hid (z = 0) := by show _ = _; rw [HZ3.out, if_neg (by omega)]
      go_wp2_with fail
      go_ret
      exact ⟨by rw [HZ4.out]; rfl, Sr.out⟩
end Go.Proofs.Ytcfdajaideidkaa
namespace Go.Proofs.Ytcfdajaideidkaa
open Go.RowKit
set_option linter.all false
set_option maxRecDepth 100000
set_option maxRecDepth 100000

set_option maxHeartbeats 1000000 in
theorem isLiveP_any (c : Ck) (now : Int) (w : World) : Calls Try.prog 29 #[.agg (ckC c).toArray, .int .i64 now] w fun e w' => e = .returned (.bool (liveB c now)) ∧ Below w.heap.size w w' := by
  simp only [ckC]
  unfold liveB
  go_enter Try.func29, Try.ntmps29
  go_wp2_with fail
  go_ret
  exact ⟨rfl, (Below.refl _ _).alloc (Nat.le_refl _) _⟩
set_option maxHeartbeats 16000000 in
theorem gateOf_any (p : Po) (pv : Value) (g : Cn) (gv : Value) (c : Ck) (w : World) (rp : Rows w pv ruC p.rules) (op : PoOk 140737488351232 p) (rg : Rows w gv intF g.vs) (og : CnOk g) (oc : CkOk 140737488351232 c) (od : (c.domain.length + 1) * 16 ≤ 140737488355328) :
    Calls Try.prog 10 #[.agg #[pv, .int .i64 p.dflt, .int .i64 p.c0, .int .i64 p.c1, .int .i64 p.c2, .int .i64 p.c3, .int .i64 p.c4, .int .i64 p.c5, .int .i64 p.c6, .int .i64 p.c7, .int .i64 p.c8, .int .i64 p.c9, .int .i64 p.c10], .agg #[.int .i64 g.g, .bool g.b0, .bool g.b1, .bool g.b2, .bool g.b3, .bool g.b4, .bool g.b5, .bool g.b6, .bool g.b7, .bool g.b8, .bool g.b9, gv], .agg #[.string (txt c.name), .string (txt c.value), .string (txt c.domain), .string (txt c.path), .bool c.hostOnly, .bool c.secure, .bool c.httpOnly, .bool c.lasting, .int .i64 c.site, .int .i64 c.expiry, .int .i64 c.created, .int .i64 c.used, .int .i64 c.no]] w fun e w' => e = .returned (.tuple #[.agg (ckC (gateC p g c)).toArray, .int .i64 (gateE p g c)]) ∧ Below w.heap.size w w' := by
  obtain ⟨E, hE⟩ : ∃ E, E = gateE p g c := ⟨_, rfl⟩
  obtain ⟨d, hd⟩ : ∃ d, d = gateC p g c := ⟨_, rfl⟩
  obtain ⟨e1, h1⟩ : ∃ e, e = chP p := ⟨_, rfl⟩
  obtain ⟨e2, h2⟩ : ∃ e, e = chC g := ⟨_, rfl⟩
  obtain ⟨e3, h3⟩ : ∃ e, e = capE p c := ⟨_, rfl⟩
  obtain ⟨q4, h4⟩ : ∃ q, q = letsP p g c := ⟨_, rfl⟩
  obtain ⟨k, hk⟩ : ∃ k, k = clampC p c := ⟨_, rfl⟩
  obtain ⟨m, hm⟩ : ∃ m, m = momB c.created := ⟨_, rfl⟩
  rw [← hE, ← hd]
  have HE : Hid (E = if e1 = 0 then (if e2 = 0 then (if e3 = 0 then (if q4 then 0 else 8) else e3) else e2) else e1) := by show _ = _; rw [hE, h1, h2, h3, h4]; rfl
  have HD : Hid (d = if E = 0 then k else ckZ) := by show _ = _; rw [hd, hE, hk]; rfl
  have HE3' : Hid (e1 = 0 → e3 = if m then 0 else 3) := fun h => by
    rw [h3, hm]; unfold capE; rw [if_pos (by rw [← h1]; exact h)]
  have KP : Hid (∀ w', Rows w' pv ruC p.rules → Calls Try.prog 26 #[.agg #[pv, .int .i64 p.dflt, .int .i64 p.c0, .int .i64 p.c1, .int .i64 p.c2, .int .i64 p.c3, .int .i64 p.c4, .int .i64 p.c5, .int .i64 p.c6, .int .i64 p.c7, .int .i64 p.c8, .int .i64 p.c9, .int .i64 p.c10]] w' fun e w'' => e = .returned (.int .i64 e1) ∧ Below w'.heap.size w' w'') := fun w' r => by rw [h1]; exact polCheckOf_any p pv w' r op.len op.rules
  have KG : Hid (∀ w', Rows w' gv intF g.vs → Calls Try.prog 27 #[.agg #[.int .i64 g.g, .bool g.b0, .bool g.b1, .bool g.b2, .bool g.b3, .bool g.b4, .bool g.b5, .bool g.b6, .bool g.b7, .bool g.b8, .bool g.b9, gv]] w' fun e w'' => e = .returned (.int .i64 e2) ∧ Below w'.heap.size w' w'') := fun w' r => by rw [h2]; exact cCheck_any g gv w' r og.max
  have KN : Hid (∀ w', Calls Try.prog 28 #[.int .i64 c.created] w' fun e w'' => e = .returned (.bool (!m)) ∧ w'' = w') := fun w' => by rw [hm]; exact noMoment_any _ _
  have KC : Hid (∀ w', Rows w' pv ruC p.rules → Calls Try.prog 31 #[.agg #[pv, .int .i64 p.dflt, .int .i64 p.c0, .int .i64 p.c1, .int .i64 p.c2, .int .i64 p.c3, .int .i64 p.c4, .int .i64 p.c5, .int .i64 p.c6, .int .i64 p.c7, .int .i64 p.c8, .int .i64 p.c9, .int .i64 p.c10], .agg #[.string (txt c.name), .string (txt c.value), .string (txt c.domain), .string (txt c.path), .bool c.hostOnly, .bool c.secure, .bool c.httpOnly, .bool c.lasting, .int .i64 c.site, .int .i64 c.expiry, .int .i64 c.created, .int .i64 c.used, .int .i64 c.no]] w' fun e w'' => e = .returned (.tuple #[.agg #[.string (txt k.name), .string (txt k.value), .string (txt k.domain), .string (txt k.path), .bool k.hostOnly, .bool k.secure, .bool k.httpOnly, .bool k.lasting, .int .i64 k.site, .int .i64 k.expiry, .int .i64 k.created, .int .i64 k.used, .int .i64 k.no], .int .i64 e3]) ∧ Below w'.heap.size w' w'') := fun w' r => by rw [hk, h3]; exact clampOf_any p pv c w' r op oc od
  have KL : Hid (∀ w', Rows w' pv ruC p.rules → Rows w' gv intF g.vs → Calls Try.prog 30 #[.agg #[pv, .int .i64 p.dflt, .int .i64 p.c0, .int .i64 p.c1, .int .i64 p.c2, .int .i64 p.c3, .int .i64 p.c4, .int .i64 p.c5, .int .i64 p.c6, .int .i64 p.c7, .int .i64 p.c8, .int .i64 p.c9, .int .i64 p.c10], .agg #[.int .i64 g.g, .bool g.b0, .bool g.b1, .bool g.b2, .bool g.b3, .bool g.b4, .bool g.b5, .bool g.b6, .bool g.b7, .bool g.b8, .bool g.b9, gv], .agg #[.string (txt c.name), .string (txt c.value), .string (txt c.domain), .string (txt c.path), .bool c.hostOnly, .bool c.secure, .bool c.httpOnly, .bool c.lasting, .int .i64 c.site, .int .i64 c.expiry, .int .i64 c.created, .int .i64 c.used, .int .i64 c.no]] w' fun e w'' => e = .returned (.bool q4) ∧ Below w'.heap.size w' w'') := fun w' r1 r2 => by rw [h4]; exact letsOf_any p pv g gv c w' op r1 r2 og.max oc od
  obtain ⟨W0, hW0⟩ : ∃ W0, W0 = ((((w.alloc (.cells #[pv, .int .i64 p.dflt, .int .i64 p.c0, .int .i64 p.c1, .int .i64 p.c2, .int .i64 p.c3, .int .i64 p.c4, .int .i64 p.c5, .int .i64 p.c6, .int .i64 p.c7, .int .i64 p.c8, .int .i64 p.c9, .int .i64 p.c10] 28)).alloc (.cells #[.int .i64 g.g, .bool g.b0, .bool g.b1, .bool g.b2, .bool g.b3, .bool g.b4, .bool g.b5, .bool g.b6, .bool g.b7, .bool g.b8, .bool g.b9, gv] 32)).alloc (.cells #[.string (txt c.name), .string (txt c.value), .string (txt c.domain), .string (txt c.path), .bool c.hostOnly, .bool c.secure, .bool c.httpOnly, .bool c.lasting, .int .i64 c.site, .int .i64 c.expiry, .int .i64 c.created, .int .i64 c.used, .int .i64 c.no] 34)).alloc (.cells #[.string ⟨#[]⟩, .string ⟨#[]⟩, .string ⟨#[]⟩, .string ⟨#[]⟩, .bool false, .bool false, .bool false, .bool false, .int .i64 0, .int .i64 0, .int .i64 0, .int .i64 0, .int .i64 0] 34)) := ⟨_, rfl⟩
  have P : Hid (PB W0 w.heap.size p pv) := by
    rw [hW0]
    have h := PB.new w p pv 28 rp
    exact (((h.below (below_new _ _)).below (below_new _ _)).below (below_new _ _))
  have G : Hid (CB W0 (w.heap.size + 1) g gv) := by
    rw [hW0]
    have h := CB.new (w.alloc (.cells #[pv, .int .i64 p.dflt, .int .i64 p.c0, .int .i64 p.c1, .int .i64 p.c2, .int .i64 p.c3, .int .i64 p.c4, .int .i64 p.c5, .int .i64 p.c6, .int .i64 p.c7, .int .i64 p.c8, .int .i64 p.c9, .int .i64 p.c10] 28)) g gv 32 (Rows.below rg (below_new _ _) (Nat.le_refl _))
    rw [show (w.alloc (.cells #[pv, .int .i64 p.dflt, .int .i64 p.c0, .int .i64 p.c1, .int .i64 p.c2, .int .i64 p.c3, .int .i64 p.c4, .int .i64 p.c5, .int .i64 p.c6, .int .i64 p.c7, .int .i64 p.c8, .int .i64 p.c9, .int .i64 p.c10] 28)).heap.size = w.heap.size + 1 from by simp] at h
    exact ((h.below (below_new _ _)).below (below_new _ _))
  have C : Hid (KB W0 (w.heap.size + 1 + 1) c) := by
    rw [hW0]
    have h := KB.new ((w.alloc (.cells #[pv, .int .i64 p.dflt, .int .i64 p.c0, .int .i64 p.c1, .int .i64 p.c2, .int .i64 p.c3, .int .i64 p.c4, .int .i64 p.c5, .int .i64 p.c6, .int .i64 p.c7, .int .i64 p.c8, .int .i64 p.c9, .int .i64 p.c10] 28)).alloc (.cells #[.int .i64 g.g, .bool g.b0, .bool g.b1, .bool g.b2, .bool g.b3, .bool g.b4, .bool g.b5, .bool g.b6, .bool g.b7, .bool g.b8, .bool g.b9, gv] 32)) c 34
    rw [show ((w.alloc (.cells #[pv, .int .i64 p.dflt, .int .i64 p.c0, .int .i64 p.c1, .int .i64 p.c2, .int .i64 p.c3, .int .i64 p.c4, .int .i64 p.c5, .int .i64 p.c6, .int .i64 p.c7, .int .i64 p.c8, .int .i64 p.c9, .int .i64 p.c10] 28)).alloc (.cells #[.int .i64 g.g, .bool g.b0, .bool g.b1, .bool g.b2, .bool g.b3, .bool g.b4, .bool g.b5, .bool g.b6, .bool g.b7, .bool g.b8, .bool g.b9, gv] 32)).heap.size = w.heap.size + 1 + 1 from by simp] at h
    exact (h.below (below_new _ _))
  have R : Hid (KB W0 (w.heap.size + 1 + 1 + 1) ckZ) := by
    rw [hW0]
    have h := KB.new (((w.alloc (.cells #[pv, .int .i64 p.dflt, .int .i64 p.c0, .int .i64 p.c1, .int .i64 p.c2, .int .i64 p.c3, .int .i64 p.c4, .int .i64 p.c5, .int .i64 p.c6, .int .i64 p.c7, .int .i64 p.c8, .int .i64 p.c9, .int .i64 p.c10] 28)).alloc (.cells #[.int .i64 g.g, .bool g.b0, .bool g.b1, .bool g.b2, .bool g.b3, .bool g.b4, .bool g.b5, .bool g.b6, .bool g.b7, .bool g.b8, .bool g.b9, gv] 32)).alloc (.cells #[.string (txt c.name), .string (txt c.value), .string (txt c.domain), .string (txt c.path), .bool c.hostOnly, .bool c.secure, .bool c.httpOnly, .bool c.lasting, .int .i64 c.site, .int .i64 c.expiry, .int .i64 c.created, .int .i64 c.used, .int .i64 c.no] 34)) ckZ 34
    rw [show (((w.alloc (.cells #[pv, .int .i64 p.dflt, .int .i64 p.c0, .int .i64 p.c1, .int .i64 p.c2, .int .i64 p.c3, .int .i64 p.c4, .int .i64 p.c5, .int .i64 p.c6, .int .i64 p.c7, .int .i64 p.c8, .int .i64 p.c9, .int .i64 p.c10] 28)).alloc (.cells #[.int .i64 g.g, .bool g.b0, .bool g.b1, .bool g.b2, .bool g.b3, .bool g.b4, .bool g.b5, .bool g.b6, .bool g.b7, .bool g.b8, .bool g.b9, gv] 32)).alloc (.cells #[.string (txt c.name), .string (txt c.value), .string (txt c.domain), .string (txt c.path), .bool c.hostOnly, .bool c.secure, .bool c.httpOnly, .bool c.lasting, .int .i64 c.site, .int .i64 c.expiry, .int .i64 c.created, .int .i64 c.used, .int .i64 c.no] 34)).heap.size = w.heap.size + 1 + 1 + 1 from by simp] at h
    exact h
  have S : Hid (Below w.heap.size w W0) := by rw [hW0]; exact next (next (next (below_new _ _) (below_new _ _)) (below_new _ _)) (below_new _ _)
  have HW0 : Hid _ := hW0
  clear rp op rg og oc od hE hd h1 h2 h3 h4 hk hm hW0
  go_enter Try.func10, Try.ntmps10
  go_upto_region 1 with fail
  rw [← HW0.out]
  clear HW0
  have x0 := P.out.row.cell 0 rfl
  have x1 := P.out.row.cell 1 rfl
  have x2 := P.out.row.cell 2 rfl
  have x3 := P.out.row.cell 3 rfl
  have x4 := P.out.row.cell 4 rfl
  have x5 := P.out.row.cell 5 rfl
  have x6 := P.out.row.cell 6 rfl
  have x7 := P.out.row.cell 7 rfl
  have x8 := P.out.row.cell 8 rfl
  have x9 := P.out.row.cell 9 rfl
  have x10 := P.out.row.cell 10 rfl
  have x11 := P.out.row.cell 11 rfl
  have x12 := P.out.row.cell 12 rfl
  go_wp2_with fail
  refine (KP.out _ P.out.rows).mono ?_
  rintro e Wn1 ⟨rfl, hb1⟩
  clear x0 x1 x2 x3 x4 x5 x6 x7 x8 x9 x10 x11 x12
  replace P : Hid (PB Wn1 w.heap.size p pv) := P.out.below hb1
  replace G : Hid (CB Wn1 (w.heap.size + 1) g gv) := G.out.below hb1
  replace C : Hid (KB Wn1 (w.heap.size + 1 + 1) c) := C.out.below hb1
  replace R : Hid (KB Wn1 (w.heap.size + 1 + 1 + 1) ckZ) := R.out.below hb1
  replace S : Hid (Below w.heap.size w Wn1) := next S.out hb1
  clear hb1
  by_cases he1 : e1 = 0
  rotate_left
  · have q : (e1 != 0) = true := by rw [bne_iff_ne]; exact he1
    have q' : (e1 == 0) = false := by rw [beq_eq_false_iff_ne]; exact he1
    have HRET : Hid (Ending.returned (.tuple #[.agg #[.string ⟨#[]⟩, .string ⟨#[]⟩, .string ⟨#[]⟩, .string ⟨#[]⟩, .bool false, .bool false, .bool false, .bool false, .int .i64 0, .int .i64 0, .int .i64 0, .int .i64 0, .int .i64 0], .int .i64 e1]) = Ending.returned (.tuple #[.agg (ckC d).toArray, .int .i64 E])) := by
      show _ = _
      have h1 : E = e1 := by rw [HE.out]; rw [if_neg he1]
      have h2 : d = ckZ := by rw [HD.out, if_neg (by rw [h1]; exact he1)]
      rw [h1, h2]; rfl
    clear he1
    have o0 := R.out.row.cell 0 rfl
    have f0 := R.out.row.frozen 0 rfl
    have o1 := R.out.row.cell 1 rfl
    have f1 := R.out.row.frozen 1 rfl
    have o2 := R.out.row.cell 2 rfl
    have f2 := R.out.row.frozen 2 rfl
    have o3 := R.out.row.cell 3 rfl
    have f3 := R.out.row.frozen 3 rfl
    have o4 := R.out.row.cell 4 rfl
    have f4 := R.out.row.frozen 4 rfl
    have o5 := R.out.row.cell 5 rfl
    have f5 := R.out.row.frozen 5 rfl
    have o6 := R.out.row.cell 6 rfl
    have f6 := R.out.row.frozen 6 rfl
    have o7 := R.out.row.cell 7 rfl
    have f7 := R.out.row.frozen 7 rfl
    have o8 := R.out.row.cell 8 rfl
    have f8 := R.out.row.frozen 8 rfl
    have o9 := R.out.row.cell 9 rfl
    have f9 := R.out.row.frozen 9 rfl
    have o10 := R.out.row.cell 10 rfl
    have f10 := R.out.row.frozen 10 rfl
    have o11 := R.out.row.cell 11 rfl
    have f11 := R.out.row.frozen 11 rfl
    have o12 := R.out.row.cell 12 rfl
    have f12 := R.out.row.frozen 12 rfl
    go_wp2_with fail
    generalize hW2 : World.setCell _ _ _ = W2
    have HP : Hid (LRow W2 (w.heap.size + 1 + 1 + 1) (ckC ckZ)) := by
      rw [← hW2]
      exact ((((((((((((R.out.row.set 0 _).set 1 _).set 2 _).set 3 _).set 4 _).set 5 _).set 6 _).set 7 _).set 8 _).set 9 _).set 10 _).set 11 _).set 12 _
    have HB2 : Hid (Below w.heap.size w W2) := by
      rw [← hW2]
      iterate 13 refine Below.setCell ?_ (show w.heap.size ≤ w.heap.size + 1 + 1 + 1 by omega) _
      exact S.out
    clear hW2 o0 f0 o1 f1 o2 f2 o3 f3 o4 f4 o5 f5 o6 f6 o7 f7 o8 f8 o9 f9 o10 f10 o11 f11 o12 f12 
    have p0 := HP.out.cell 0 rfl
    have p1 := HP.out.cell 1 rfl
    have p2 := HP.out.cell 2 rfl
    have p3 := HP.out.cell 3 rfl
    have p4 := HP.out.cell 4 rfl
    have p5 := HP.out.cell 5 rfl
    have p6 := HP.out.cell 6 rfl
    have p7 := HP.out.cell 7 rfl
    have p8 := HP.out.cell 8 rfl
    have p9 := HP.out.cell 9 rfl
    have p10 := HP.out.cell 10 rfl
    have p11 := HP.out.cell 11 rfl
    have p12 := HP.out.cell 12 rfl
    exact bodyPost_ret (v := .tuple #[.agg #[.string ⟨#[]⟩, .string ⟨#[]⟩, .string ⟨#[]⟩, .string ⟨#[]⟩, .bool false, .bool false, .bool false, .bool false, .int .i64 0, .int .i64 0, .int .i64 0, .int .i64 0, .int .i64 0], .int .i64 e1]) (by simp [results, Try.results10, go_sem, ckZ, txt_nil, p0, p1, p2, p3, p4, p5, p6, p7, p8, p9, p10, p11, p12]) rfl ⟨HRET.out, HB2.out⟩
  have qe1 : (e1 == 0) = true := by rw [he1]; rfl
  have HHe1 : Hid (e1 = 0) := he1
  clear he1
  have x0 := G.out.row.cell 0 rfl
  have x1 := G.out.row.cell 1 rfl
  have x2 := G.out.row.cell 2 rfl
  have x3 := G.out.row.cell 3 rfl
  have x4 := G.out.row.cell 4 rfl
  have x5 := G.out.row.cell 5 rfl
  have x6 := G.out.row.cell 6 rfl
  have x7 := G.out.row.cell 7 rfl
  have x8 := G.out.row.cell 8 rfl
  have x9 := G.out.row.cell 9 rfl
  have x10 := G.out.row.cell 10 rfl
  have x11 := G.out.row.cell 11 rfl
  go_wp2_with fail
  refine (KG.out _ G.out.rows).mono ?_
  rintro e Wn2 ⟨rfl, hb2⟩
  clear x0 x1 x2 x3 x4 x5 x6 x7 x8 x9 x10 x11
  replace P : Hid (PB Wn2 w.heap.size p pv) := P.out.below hb2
  replace G : Hid (CB Wn2 (w.heap.size + 1) g gv) := G.out.below hb2
  replace C : Hid (KB Wn2 (w.heap.size + 1 + 1) c) := C.out.below hb2
  replace R : Hid (KB Wn2 (w.heap.size + 1 + 1 + 1) ckZ) := R.out.below hb2
  replace S : Hid (Below w.heap.size w Wn2) := next S.out hb2
  clear hb2
  by_cases he2 : e2 = 0
  rotate_left
  · have q : (e2 != 0) = true := by rw [bne_iff_ne]; exact he2
    have q' : (e2 == 0) = false := by rw [beq_eq_false_iff_ne]; exact he2
    have HRET : Hid (Ending.returned (.tuple #[.agg #[.string ⟨#[]⟩, .string ⟨#[]⟩, .string ⟨#[]⟩, .string ⟨#[]⟩, .bool false, .bool false, .bool false, .bool false, .int .i64 0, .int .i64 0, .int .i64 0, .int .i64 0, .int .i64 0], .int .i64 e2]) = Ending.returned (.tuple #[.agg (ckC d).toArray, .int .i64 E])) := by
      show _ = _
      have h1 : E = e2 := by rw [HE.out]; rw [if_pos HHe1.out]; rw [if_neg he2]
      have h2 : d = ckZ := by rw [HD.out, if_neg (by rw [h1]; exact he2)]
      rw [h1, h2]; rfl
    clear he2
    have o0 := R.out.row.cell 0 rfl
    have f0 := R.out.row.frozen 0 rfl
    have o1 := R.out.row.cell 1 rfl
    have f1 := R.out.row.frozen 1 rfl
    have o2 := R.out.row.cell 2 rfl
    have f2 := R.out.row.frozen 2 rfl
    have o3 := R.out.row.cell 3 rfl
    have f3 := R.out.row.frozen 3 rfl
    have o4 := R.out.row.cell 4 rfl
    have f4 := R.out.row.frozen 4 rfl
    have o5 := R.out.row.cell 5 rfl
    have f5 := R.out.row.frozen 5 rfl
    have o6 := R.out.row.cell 6 rfl
    have f6 := R.out.row.frozen 6 rfl
    have o7 := R.out.row.cell 7 rfl
    have f7 := R.out.row.frozen 7 rfl
    have o8 := R.out.row.cell 8 rfl
    have f8 := R.out.row.frozen 8 rfl
    have o9 := R.out.row.cell 9 rfl
    have f9 := R.out.row.frozen 9 rfl
    have o10 := R.out.row.cell 10 rfl
    have f10 := R.out.row.frozen 10 rfl
    have o11 := R.out.row.cell 11 rfl
    have f11 := R.out.row.frozen 11 rfl
    have o12 := R.out.row.cell 12 rfl
    have f12 := R.out.row.frozen 12 rfl
    go_wp2_with fail
    generalize hW2 : World.setCell _ _ _ = W2
    have HP : Hid (LRow W2 (w.heap.size + 1 + 1 + 1) (ckC ckZ)) := by
      rw [← hW2]
      exact ((((((((((((R.out.row.set 0 _).set 1 _).set 2 _).set 3 _).set 4 _).set 5 _).set 6 _).set 7 _).set 8 _).set 9 _).set 10 _).set 11 _).set 12 _
    have HB2 : Hid (Below w.heap.size w W2) := by
      rw [← hW2]
      iterate 13 refine Below.setCell ?_ (show w.heap.size ≤ w.heap.size + 1 + 1 + 1 by omega) _
      exact S.out
    clear hW2 o0 f0 o1 f1 o2 f2 o3 f3 o4 f4 o5 f5 o6 f6 o7 f7 o8 f8 o9 f9 o10 f10 o11 f11 o12 f12 
    have p0 := HP.out.cell 0 rfl
    have p1 := HP.out.cell 1 rfl
    have p2 := HP.out.cell 2 rfl
    have p3 := HP.out.cell 3 rfl
    have p4 := HP.out.cell 4 rfl
    have p5 := HP.out.cell 5 rfl
    have p6 := HP.out.cell 6 rfl
    have p7 := HP.out.cell 7 rfl
    have p8 := HP.out.cell 8 rfl
    have p9 := HP.out.cell 9 rfl
    have p10 := HP.out.cell 10 rfl
    have p11 := HP.out.cell 11 rfl
    have p12 := HP.out.cell 12 rfl
    exact bodyPost_ret (v := .tuple #[.agg #[.string ⟨#[]⟩, .string ⟨#[]⟩, .string ⟨#[]⟩, .string ⟨#[]⟩, .bool false, .bool false, .bool false, .bool false, .int .i64 0, .int .i64 0, .int .i64 0, .int .i64 0, .int .i64 0], .int .i64 e2]) (by simp [results, Try.results10, go_sem, ckZ, txt_nil, p0, p1, p2, p3, p4, p5, p6, p7, p8, p9, p10, p11, p12]) rfl ⟨HRET.out, HB2.out⟩
  have qe2 : (e2 == 0) = true := by rw [he2]; rfl
  have HHe2 : Hid (e2 = 0) := he2
  clear he2
  have x0 := C.out.row.cell 0 rfl
  have x1 := C.out.row.cell 1 rfl
  have x2 := C.out.row.cell 2 rfl
  have x3 := C.out.row.cell 3 rfl
  have x4 := C.out.row.cell 4 rfl
  have x5 := C.out.row.cell 5 rfl
  have x6 := C.out.row.cell 6 rfl
  have x7 := C.out.row.cell 7 rfl
  have x8 := C.out.row.cell 8 rfl
  have x9 := C.out.row.cell 9 rfl
  have x10 := C.out.row.cell 10 rfl
  have x11 := C.out.row.cell 11 rfl
  have x12 := C.out.row.cell 12 rfl
  go_wp2_with fail
  refine (KN.out _).mono ?_
  rintro e wn ⟨rfl, hwn⟩
  subst wn
  clear x0 x1 x2 x3 x4 x5 x6 x7 x8 x9 x10 x11 x12
  have HE3 : Hid (e3 = if m then 0 else 3) := HE3'.out HHe1.out
  cases m
  · have HRET : Hid (Ending.returned (.tuple #[.agg #[.string ⟨#[]⟩, .string ⟨#[]⟩, .string ⟨#[]⟩, .string ⟨#[]⟩, .bool false, .bool false, .bool false, .bool false, .int .i64 0, .int .i64 0, .int .i64 0, .int .i64 0, .int .i64 0], .int .i64 3]) = Ending.returned (.tuple #[.agg (ckC d).toArray, .int .i64 E])) := by
      show _ = _
      have h1 : E = 3 := by rw [HE.out, if_pos HHe1.out, if_pos HHe2.out]; rw [HE3.out]; rfl
      have h2 : d = ckZ := by rw [HD.out, if_neg (by rw [h1]; decide)]
      rw [h1, h2]; rfl
    have o0 := R.out.row.cell 0 rfl
    have f0 := R.out.row.frozen 0 rfl
    have o1 := R.out.row.cell 1 rfl
    have f1 := R.out.row.frozen 1 rfl
    have o2 := R.out.row.cell 2 rfl
    have f2 := R.out.row.frozen 2 rfl
    have o3 := R.out.row.cell 3 rfl
    have f3 := R.out.row.frozen 3 rfl
    have o4 := R.out.row.cell 4 rfl
    have f4 := R.out.row.frozen 4 rfl
    have o5 := R.out.row.cell 5 rfl
    have f5 := R.out.row.frozen 5 rfl
    have o6 := R.out.row.cell 6 rfl
    have f6 := R.out.row.frozen 6 rfl
    have o7 := R.out.row.cell 7 rfl
    have f7 := R.out.row.frozen 7 rfl
    have o8 := R.out.row.cell 8 rfl
    have f8 := R.out.row.frozen 8 rfl
    have o9 := R.out.row.cell 9 rfl
    have f9 := R.out.row.frozen 9 rfl
    have o10 := R.out.row.cell 10 rfl
    have f10 := R.out.row.frozen 10 rfl
    have o11 := R.out.row.cell 11 rfl
    have f11 := R.out.row.frozen 11 rfl
    have o12 := R.out.row.cell 12 rfl
    have f12 := R.out.row.frozen 12 rfl
    go_wp2_with fail
    generalize hW2 : World.setCell _ _ _ = W2
    have HP : Hid (LRow W2 (w.heap.size + 1 + 1 + 1) (ckC ckZ)) := by
      rw [← hW2]
      exact ((((((((((((R.out.row.set 0 _).set 1 _).set 2 _).set 3 _).set 4 _).set 5 _).set 6 _).set 7 _).set 8 _).set 9 _).set 10 _).set 11 _).set 12 _
    have HB2 : Hid (Below w.heap.size w W2) := by
      rw [← hW2]
      iterate 13 refine Below.setCell ?_ (show w.heap.size ≤ w.heap.size + 1 + 1 + 1 by omega) _
      exact S.out
    clear hW2 o0 f0 o1 f1 o2 f2 o3 f3 o4 f4 o5 f5 o6 f6 o7 f7 o8 f8 o9 f9 o10 f10 o11 f11 o12 f12 
    have p0 := HP.out.cell 0 rfl
    have p1 := HP.out.cell 1 rfl
    have p2 := HP.out.cell 2 rfl
    have p3 := HP.out.cell 3 rfl
    have p4 := HP.out.cell 4 rfl
    have p5 := HP.out.cell 5 rfl
    have p6 := HP.out.cell 6 rfl
    have p7 := HP.out.cell 7 rfl
    have p8 := HP.out.cell 8 rfl
    have p9 := HP.out.cell 9 rfl
    have p10 := HP.out.cell 10 rfl
    have p11 := HP.out.cell 11 rfl
    have p12 := HP.out.cell 12 rfl
    exact bodyPost_ret (v := .tuple #[.agg #[.string ⟨#[]⟩, .string ⟨#[]⟩, .string ⟨#[]⟩, .string ⟨#[]⟩, .bool false, .bool false, .bool false, .bool false, .int .i64 0, .int .i64 0, .int .i64 0, .int .i64 0, .int .i64 0], .int .i64 3]) (by simp [results, Try.results10, go_sem, ckZ, txt_nil, p0, p1, p2, p3, p4, p5, p6, p7, p8, p9, p10, p11, p12]) rfl ⟨HRET.out, HB2.out⟩
  have x0 := P.out.row.cell 0 rfl
  have x1 := P.out.row.cell 1 rfl
  have x2 := P.out.row.cell 2 rfl
  have x3 := P.out.row.cell 3 rfl
  have x4 := P.out.row.cell 4 rfl
  have x5 := P.out.row.cell 5 rfl
  have x6 := P.out.row.cell 6 rfl
  have x7 := P.out.row.cell 7 rfl
  have x8 := P.out.row.cell 8 rfl
  have x9 := P.out.row.cell 9 rfl
  have x10 := P.out.row.cell 10 rfl
  have x11 := P.out.row.cell 11 rfl
  have x12 := P.out.row.cell 12 rfl
  have y0 := G.out.row.cell 0 rfl
  have y1 := G.out.row.cell 1 rfl
  have y2 := G.out.row.cell 2 rfl
  have y3 := G.out.row.cell 3 rfl
  have y4 := G.out.row.cell 4 rfl
  have y5 := G.out.row.cell 5 rfl
  have y6 := G.out.row.cell 6 rfl
  have y7 := G.out.row.cell 7 rfl
  have y8 := G.out.row.cell 8 rfl
  have y9 := G.out.row.cell 9 rfl
  have y10 := G.out.row.cell 10 rfl
  have y11 := G.out.row.cell 11 rfl
  have z0 := C.out.row.cell 0 rfl
  have z1 := C.out.row.cell 1 rfl
  have z2 := C.out.row.cell 2 rfl
  have z3 := C.out.row.cell 3 rfl
  have z4 := C.out.row.cell 4 rfl
  have z5 := C.out.row.cell 5 rfl
  have z6 := C.out.row.cell 6 rfl
  have z7 := C.out.row.cell 7 rfl
  have z8 := C.out.row.cell 8 rfl
  have z9 := C.out.row.cell 9 rfl
  have z10 := C.out.row.cell 10 rfl
  have z11 := C.out.row.cell 11 rfl
  have z12 := C.out.row.cell 12 rfl
  go_wp2_with fail
  refine (KL.out _ P.out.rows G.out.rows).mono ?_
  rintro e Wn3 ⟨rfl, hb3⟩
  clear x0 x1 x2 x3 x4 x5 x6 x7 x8 x9 x10 x11 x12 y0 y1 y2 y3 y4 y5 y6 y7 y8 y9 y10 y11 z0 z1 z2 z3 z4 z5 z6 z7 z8 z9 z10 z11 z12
  replace P : Hid (PB Wn3 w.heap.size p pv) := P.out.below hb3
  replace G : Hid (CB Wn3 (w.heap.size + 1) g gv) := G.out.below hb3
  replace C : Hid (KB Wn3 (w.heap.size + 1 + 1) c) := C.out.below hb3
  replace R : Hid (KB Wn3 (w.heap.size + 1 + 1 + 1) ckZ) := R.out.below hb3
  replace S : Hid (Below w.heap.size w Wn3) := next S.out hb3
  clear hb3
  cases q4
  · have HRET : Hid (Ending.returned (.tuple #[.agg #[.string ⟨#[]⟩, .string ⟨#[]⟩, .string ⟨#[]⟩, .string ⟨#[]⟩, .bool false, .bool false, .bool false, .bool false, .int .i64 0, .int .i64 0, .int .i64 0, .int .i64 0, .int .i64 0], .int .i64 8]) = Ending.returned (.tuple #[.agg (ckC d).toArray, .int .i64 E])) := by
      show _ = _
      have h1 : E = 8 := by rw [HE.out, if_pos HHe1.out, if_pos HHe2.out]; rw [HE3.out]; rfl
      have h2 : d = ckZ := by rw [HD.out, if_neg (by rw [h1]; decide)]
      rw [h1, h2]; rfl
    have o0 := R.out.row.cell 0 rfl
    have f0 := R.out.row.frozen 0 rfl
    have o1 := R.out.row.cell 1 rfl
    have f1 := R.out.row.frozen 1 rfl
    have o2 := R.out.row.cell 2 rfl
    have f2 := R.out.row.frozen 2 rfl
    have o3 := R.out.row.cell 3 rfl
    have f3 := R.out.row.frozen 3 rfl
    have o4 := R.out.row.cell 4 rfl
    have f4 := R.out.row.frozen 4 rfl
    have o5 := R.out.row.cell 5 rfl
    have f5 := R.out.row.frozen 5 rfl
    have o6 := R.out.row.cell 6 rfl
    have f6 := R.out.row.frozen 6 rfl
    have o7 := R.out.row.cell 7 rfl
    have f7 := R.out.row.frozen 7 rfl
    have o8 := R.out.row.cell 8 rfl
    have f8 := R.out.row.frozen 8 rfl
    have o9 := R.out.row.cell 9 rfl
    have f9 := R.out.row.frozen 9 rfl
    have o10 := R.out.row.cell 10 rfl
    have f10 := R.out.row.frozen 10 rfl
    have o11 := R.out.row.cell 11 rfl
    have f11 := R.out.row.frozen 11 rfl
    have o12 := R.out.row.cell 12 rfl
    have f12 := R.out.row.frozen 12 rfl
    go_wp2_with fail
    generalize hW2 : World.setCell _ _ _ = W2
    have HP : Hid (LRow W2 (w.heap.size + 1 + 1 + 1) (ckC ckZ)) := by
      rw [← hW2]
      exact ((((((((((((R.out.row.set 0 _).set 1 _).set 2 _).set 3 _).set 4 _).set 5 _).set 6 _).set 7 _).set 8 _).set 9 _).set 10 _).set 11 _).set 12 _
    have HB2 : Hid (Below w.heap.size w W2) := by
      rw [← hW2]
      iterate 13 refine Below.setCell ?_ (show w.heap.size ≤ w.heap.size + 1 + 1 + 1 by omega) _
      exact S.out
    clear hW2 o0 f0 o1 f1 o2 f2 o3 f3 o4 f4 o5 f5 o6 f6 o7 f7 o8 f8 o9 f9 o10 f10 o11 f11 o12 f12 
    have p0 := HP.out.cell 0 rfl
    have p1 := HP.out.cell 1 rfl
    have p2 := HP.out.cell 2 rfl
    have p3 := HP.out.cell 3 rfl
    have p4 := HP.out.cell 4 rfl
    have p5 := HP.out.cell 5 rfl
    have p6 := HP.out.cell 6 rfl
    have p7 := HP.out.cell 7 rfl
    have p8 := HP.out.cell 8 rfl
    have p9 := HP.out.cell 9 rfl
    have p10 := HP.out.cell 10 rfl
    have p11 := HP.out.cell 11 rfl
    have p12 := HP.out.cell 12 rfl
    exact bodyPost_ret (v := .tuple #[.agg #[.string ⟨#[]⟩, .string ⟨#[]⟩, .string ⟨#[]⟩, .string ⟨#[]⟩, .bool false, .bool false, .bool false, .bool false, .int .i64 0, .int .i64 0, .int .i64 0, .int .i64 0, .int .i64 0], .int .i64 8]) (by simp [results, Try.results10, go_sem, ckZ, txt_nil, p0, p1, p2, p3, p4, p5, p6, p7, p8, p9, p10, p11, p12]) rfl ⟨HRET.out, HB2.out⟩
  have x0 := P.out.row.cell 0 rfl
  have x1 := P.out.row.cell 1 rfl
  have x2 := P.out.row.cell 2 rfl
  have x3 := P.out.row.cell 3 rfl
  have x4 := P.out.row.cell 4 rfl
  have x5 := P.out.row.cell 5 rfl
  have x6 := P.out.row.cell 6 rfl
  have x7 := P.out.row.cell 7 rfl
  have x8 := P.out.row.cell 8 rfl
  have x9 := P.out.row.cell 9 rfl
  have x10 := P.out.row.cell 10 rfl
  have x11 := P.out.row.cell 11 rfl
  have x12 := P.out.row.cell 12 rfl
  have y0 := C.out.row.cell 0 rfl
  have y1 := C.out.row.cell 1 rfl
  have y2 := C.out.row.cell 2 rfl
  have y3 := C.out.row.cell 3 rfl
  have y4 := C.out.row.cell 4 rfl
  have y5 := C.out.row.cell 5 rfl
  have y6 := C.out.row.cell 6 rfl
  have y7 := C.out.row.cell 7 rfl
  have y8 := C.out.row.cell 8 rfl
  have y9 := C.out.row.cell 9 rfl
  have y10 := C.out.row.cell 10 rfl
  have y11 := C.out.row.cell 11 rfl
  have y12 := C.out.row.cell 12 rfl
  go_wp2_with fail
  refine (KC.out _ P.out.rows).mono ?_
  rintro e Wn4 ⟨rfl, hb4⟩
  clear x0 x1 x2 x3 x4 x5 x6 x7 x8 x9 x10 x11 x12 y0 y1 y2 y3 y4 y5 y6 y7 y8 y9 y10 y11 y12
  replace P : Hid (PB Wn4 w.heap.size p pv) := P.out.below hb4
  replace G : Hid (CB Wn4 (w.heap.size + 1) g gv) := G.out.below hb4
  replace C : Hid (KB Wn4 (w.heap.size + 1 + 1) c) := C.out.below hb4
  replace R : Hid (KB Wn4 (w.heap.size + 1 + 1 + 1) ckZ) := R.out.below hb4
  replace S : Hid (Below w.heap.size w Wn4) := next S.out hb4
  clear hb4
  have HRET : Hid (Ending.returned (.tuple #[.agg #[.string (txt k.name), .string (txt k.value), .string (txt k.domain), .string (txt k.path), .bool k.hostOnly, .bool k.secure, .bool k.httpOnly, .bool k.lasting, .int .i64 k.site, .int .i64 k.expiry, .int .i64 k.created, .int .i64 k.used, .int .i64 k.no], .int .i64 e3]) = Ending.returned (.tuple #[.agg (ckC d).toArray, .int .i64 E])) := by
    show _ = _
    have h3 : e3 = 0 := by rw [HE3.out]; rfl
    have h1 : E = 0 := by rw [HE.out, if_pos HHe1.out, if_pos HHe2.out, if_pos h3]; rfl
    have h2 : d = k := by rw [HD.out, if_pos h1]
    rw [h1, h2, h3]; rfl
  have o0 := R.out.row.cell 0 rfl
  have f0 := R.out.row.frozen 0 rfl
  have o1 := R.out.row.cell 1 rfl
  have f1 := R.out.row.frozen 1 rfl
  have o2 := R.out.row.cell 2 rfl
  have f2 := R.out.row.frozen 2 rfl
  have o3 := R.out.row.cell 3 rfl
  have f3 := R.out.row.frozen 3 rfl
  have o4 := R.out.row.cell 4 rfl
  have f4 := R.out.row.frozen 4 rfl
  have o5 := R.out.row.cell 5 rfl
  have f5 := R.out.row.frozen 5 rfl
  have o6 := R.out.row.cell 6 rfl
  have f6 := R.out.row.frozen 6 rfl
  have o7 := R.out.row.cell 7 rfl
  have f7 := R.out.row.frozen 7 rfl
  have o8 := R.out.row.cell 8 rfl
  have f8 := R.out.row.frozen 8 rfl
  have o9 := R.out.row.cell 9 rfl
  have f9 := R.out.row.frozen 9 rfl
  have o10 := R.out.row.cell 10 rfl
  have f10 := R.out.row.frozen 10 rfl
  have o11 := R.out.row.cell 11 rfl
  have f11 := R.out.row.frozen 11 rfl
  have o12 := R.out.row.cell 12 rfl
  have f12 := R.out.row.frozen 12 rfl
  go_wp2_with fail
  generalize hW2 : World.setCell _ _ _ = W2
  have HP : Hid (LRow W2 (w.heap.size + 1 + 1 + 1) (ckC k)) := by
    rw [← hW2]
    exact ((((((((((((R.out.row.set 0 _).set 1 _).set 2 _).set 3 _).set 4 _).set 5 _).set 6 _).set 7 _).set 8 _).set 9 _).set 10 _).set 11 _).set 12 _
  have HB2 : Hid (Below w.heap.size w W2) := by
    rw [← hW2]
    iterate 13 refine Below.setCell ?_ (show w.heap.size ≤ w.heap.size + 1 + 1 + 1 by omega) _
    exact S.out
  clear hW2 o0 f0 o1 f1 o2 f2 o3 f3 o4 f4 o5 f5 o6 f6 o7 f7 o8 f8 o9 f9 o10 f10 o11 f11 o12 f12 
  have p0 := HP.out.cell 0 rfl
  have p1 := HP.out.cell 1 rfl
  have p2 := HP.out.cell 2 rfl
  have p3 := HP.out.cell 3 rfl
  have p4 := HP.out.cell 4 rfl
  have p5 := HP.out.cell 5 rfl
  have p6 := HP.out.cell 6 rfl
  have p7 := HP.out.cell 7 rfl
  have p8 := HP.out.cell 8 rfl
  have p9 := HP.out.cell 9 rfl
  have p10 := HP.out.cell 10 rfl
  have p11 := HP.out.cell 11 rfl
  have p12 := HP.out.cell 12 rfl
  exact bodyPost_ret (v := .tuple #[.agg #[.string (txt k.name), .string (txt k.value), .string (txt k.domain), .string (txt k.path), .bool k.hostOnly, .bool k.secure, .bool k.httpOnly, .bool k.lasting, .int .i64 k.site, .int .i64 k.expiry, .int .i64 k.created, .int .i64 k.used, .int .i64 k.no], .int .i64 e3]) (by simp [results, Try.results10, go_sem, ckZ, p0, p1, p2, p3, p4, p5, p6, p7, p8, p9, p10, p11, p12]) rfl ⟨HRET.out, HB2.out⟩
set_option maxHeartbeats 16000000 in
theorem purgeOf_any (j : Ja) (jv : Value) (p : Po) (pv : Value) (g : Cn) (gv : Value) (now : Int) (w : World) (rj : Rows w jv ckC j.cks) (oj : JaOk 140737488351232 j) (ojd : ∀ c ∈ j.cks, (c.domain.length + 1) * 16 ≤ 140737488355328) (rp : Rows w pv ruC p.rules) (op : PoOk 140737488351232 p) (rg : Rows w gv intF g.vs) (og : CnOk g) :
    Calls Try.prog 9 #[.agg #[jv, .int .i64 j.next], .agg #[pv, .int .i64 p.dflt, .int .i64 p.c0, .int .i64 p.c1, .int .i64 p.c2, .int .i64 p.c3, .int .i64 p.c4, .int .i64 p.c5, .int .i64 p.c6, .int .i64 p.c7, .int .i64 p.c8, .int .i64 p.c9, .int .i64 p.c10], .agg #[.int .i64 g.g, .bool g.b0, .bool g.b1, .bool g.b2, .bool g.b3, .bool g.b4, .bool g.b5, .bool g.b6, .bool g.b7, .bool g.b8, .bool g.b9, gv], .int .i64 now] w fun e w' => ∃ v', e = .returned (.tuple #[.agg #[v', .int .i64 (purJ j p g now).next], .int .i64 (purN j p g now), .int .i64 (chPu j p g now)]) ∧ w'.ownsRow w.heap.size 34 13 v' (purJ j p g now).cks.length ((purJ j p g now).cks.flatMap ckC) ∧ Below w.heap.size w w' := by
  obtain ⟨ad, cap, rfl⟩ := rj.shape
  obtain ⟨E, hE⟩ : ∃ e, e = chPu j p g now := ⟨_, rfl⟩
  obtain ⟨OJ, hOJ⟩ : ∃ e, e = purJ j p g now := ⟨_, rfl⟩
  obtain ⟨ON, hON⟩ : ∃ e, e = purN j p g now := ⟨_, rfl⟩
  obtain ⟨e1, h1⟩ : ∃ e, e = chJ j := ⟨_, rfl⟩
  obtain ⟨e2, h2⟩ : ∃ e, e = chP p := ⟨_, rfl⟩
  obtain ⟨e3, h3⟩ : ∃ e, e = chC g := ⟨_, rfl⟩
  obtain ⟨m, hm⟩ : ∃ m, m = momB now := ⟨_, rfl⟩
  obtain ⟨l, hl⟩ : ∃ l, l = j.cks := ⟨_, rfl⟩
  obtain ⟨n, hn⟩ : ∃ n, n = l.length := ⟨_, rfl⟩
  rw [← hE, ← hOJ, ← hON]
  have hn' : n = j.cks.length := by rw [hn, hl]
  rw [← hn'] at rj ⊢
  have HN : Hid (n = l.length) := hn
  have HE : Hid (E = if e1 = 0 then (if e2 = 0 then (if e3 = 0 then (if m then 0 else 3) else e3) else e2) else e1) := by show _ = _; rw [hE, h1, h2, h3, hm]; rfl
  have HOJ : Hid (OJ = if E = 0 then ⟨keepL p g now l, j.next⟩ else ⟨[], 0⟩) := by show _ = _; rw [hOJ, hE, hl]; rfl
  have HON : Hid (ON = if E = 0 then (l.length : Int) - ((keepL p g now l).length : Int) else 0) := by show _ = _; rw [hON, hE, hl]; rfl
  have HN12 : Hid (E = 0 → n ≤ 12) := fun h => by rw [hn']; exact chJ_len (chPu_jar (by rw [← hE]; exact h))
  have HR : Hid (Rows w (.slice ad n cap) ckC l) := by rw [hl]; exact rj
  have HRP : Hid (Rows w pv ruC p.rules) := rp
  have HRG : Hid (Rows w gv intF g.vs) := rg
  have HOP : Hid (PoOk 140737488351232 p) := op
  have HOG : Hid (CnOk g) := og
  have HCK : Hid (∀ c ∈ l, CkOk 140737488351232 c ∧ (c.domain.length + 1) * 16 ≤ 140737488355328) := by rw [hl]; exact fun c hc => ⟨oj.cks c hc, ojd c hc⟩
  have KJ : Hid (∀ w', Rows w' (.slice ad n cap) ckC j.cks → Calls Try.prog 25 #[.agg #[(.slice ad n cap), .int .i64 j.next]] w' fun e w'' => e = .returned (.int .i64 e1) ∧ Below w'.heap.size w' w'') := fun w' r => by rw [h1]; exact jarCheckOf_any j _ w' r oj
  have KP : Hid (∀ w', Rows w' pv ruC p.rules → Calls Try.prog 26 #[.agg #[pv, .int .i64 p.dflt, .int .i64 p.c0, .int .i64 p.c1, .int .i64 p.c2, .int .i64 p.c3, .int .i64 p.c4, .int .i64 p.c5, .int .i64 p.c6, .int .i64 p.c7, .int .i64 p.c8, .int .i64 p.c9, .int .i64 p.c10]] w' fun e w'' => e = .returned (.int .i64 e2) ∧ Below w'.heap.size w' w'') := fun w' r => by rw [h2]; exact polCheckOf_any p pv w' r op.len op.rules
  have KG : Hid (∀ w', Rows w' gv intF g.vs → Calls Try.prog 27 #[.agg #[.int .i64 g.g, .bool g.b0, .bool g.b1, .bool g.b2, .bool g.b3, .bool g.b4, .bool g.b5, .bool g.b6, .bool g.b7, .bool g.b8, .bool g.b9, gv]] w' fun e w'' => e = .returned (.int .i64 e3) ∧ Below w'.heap.size w' w'') := fun w' r => by rw [h3]; exact cCheck_any g gv w' r og.max
  have KN : Hid (∀ w', Calls Try.prog 28 #[.int .i64 now] w' fun e w'' => e = .returned (.bool (!m)) ∧ w'' = w') := fun w' => by rw [hm]; exact noMoment_any _ _
  obtain ⟨i0, hi, hz0, hz1, hz2⟩ := infoCk
  obtain ⟨W0, hW0⟩ : ∃ W0, W0 = ((((w.alloc (.cells #[(.slice ad n cap), .int .i64 j.next] 24)).alloc (.cells #[pv, .int .i64 p.dflt, .int .i64 p.c0, .int .i64 p.c1, .int .i64 p.c2, .int .i64 p.c3, .int .i64 p.c4, .int .i64 p.c5, .int .i64 p.c6, .int .i64 p.c7, .int .i64 p.c8, .int .i64 p.c9, .int .i64 p.c10] 28)).alloc (.cells #[.int .i64 g.g, .bool g.b0, .bool g.b1, .bool g.b2, .bool g.b3, .bool g.b4, .bool g.b5, .bool g.b6, .bool g.b7, .bool g.b8, .bool g.b9, gv] 32)).alloc (.cells #[.slice none 0 0, .int .i64 0] 24)) := ⟨_, rfl⟩
  have J : Hid (JB W0 w.heap.size j (.slice ad n cap)) := by
    rw [hW0]
    have h := JB.new w j (.slice ad n cap) 24 rj
    exact (((h.below (below_new _ _)).below (below_new _ _)).below (below_new _ _))
  have P : Hid (PB W0 (w.heap.size + 1) p pv) := by
    rw [hW0]
    have h := PB.new (w.alloc (.cells #[(.slice ad n cap), .int .i64 j.next] 24)) p pv 28 (Rows.below rp (below_new _ _) (Nat.le_refl _))
    rw [show (w.alloc (.cells #[(.slice ad n cap), .int .i64 j.next] 24)).heap.size = w.heap.size + 1 from by simp] at h
    exact ((h.below (below_new _ _)).below (below_new _ _))
  have G : Hid (CB W0 (w.heap.size + 1 + 1) g gv) := by
    rw [hW0]
    have h := CB.new ((w.alloc (.cells #[(.slice ad n cap), .int .i64 j.next] 24)).alloc (.cells #[pv, .int .i64 p.dflt, .int .i64 p.c0, .int .i64 p.c1, .int .i64 p.c2, .int .i64 p.c3, .int .i64 p.c4, .int .i64 p.c5, .int .i64 p.c6, .int .i64 p.c7, .int .i64 p.c8, .int .i64 p.c9, .int .i64 p.c10] 28)) g gv 32 (Rows.below (Rows.below rg (below_new _ _) (Nat.le_refl _)) (below_new _ _) (Nat.le_refl _))
    rw [show ((w.alloc (.cells #[(.slice ad n cap), .int .i64 j.next] 24)).alloc (.cells #[pv, .int .i64 p.dflt, .int .i64 p.c0, .int .i64 p.c1, .int .i64 p.c2, .int .i64 p.c3, .int .i64 p.c4, .int .i64 p.c5, .int .i64 p.c6, .int .i64 p.c7, .int .i64 p.c8, .int .i64 p.c9, .int .i64 p.c10] 28)).heap.size = w.heap.size + 1 + 1 from by simp] at h
    exact (h.below (below_new _ _))
  have R : Hid (QB W0 (w.heap.size + 1 + 1 + 1) [.slice none 0 0, .int .i64 0]) := by
    rw [hW0]
    have h := QB.new (((w.alloc (.cells #[(.slice ad n cap), .int .i64 j.next] 24)).alloc (.cells #[pv, .int .i64 p.dflt, .int .i64 p.c0, .int .i64 p.c1, .int .i64 p.c2, .int .i64 p.c3, .int .i64 p.c4, .int .i64 p.c5, .int .i64 p.c6, .int .i64 p.c7, .int .i64 p.c8, .int .i64 p.c9, .int .i64 p.c10] 28)).alloc (.cells #[.int .i64 g.g, .bool g.b0, .bool g.b1, .bool g.b2, .bool g.b3, .bool g.b4, .bool g.b5, .bool g.b6, .bool g.b7, .bool g.b8, .bool g.b9, gv] 32)) [.slice none 0 0, .int .i64 0] 24
    rw [show (((w.alloc (.cells #[(.slice ad n cap), .int .i64 j.next] 24)).alloc (.cells #[pv, .int .i64 p.dflt, .int .i64 p.c0, .int .i64 p.c1, .int .i64 p.c2, .int .i64 p.c3, .int .i64 p.c4, .int .i64 p.c5, .int .i64 p.c6, .int .i64 p.c7, .int .i64 p.c8, .int .i64 p.c9, .int .i64 p.c10] 28)).alloc (.cells #[.int .i64 g.g, .bool g.b0, .bool g.b1, .bool g.b2, .bool g.b3, .bool g.b4, .bool g.b5, .bool g.b6, .bool g.b7, .bool g.b8, .bool g.b9, gv] 32)).heap.size = w.heap.size + 1 + 1 + 1 from by simp] at h
    exact h
  have S : Hid (Below w.heap.size w W0) := by rw [hW0]; exact next (next (next (below_new _ _) (below_new _ _)) (below_new _ _)) (below_new _ _)
  have HW0 : Hid _ := hW0
  clear rj oj ojd rp op rg og hE hOJ hON hl hn hn' h1 h2 h3 hm hW0
  go_enter Try.func9, Try.ntmps9
  go_upto_region 1 with fail
  rw [← HW0.out]
  clear HW0
  have x0 := J.out.row.cell 0 rfl
  have x1 := J.out.row.cell 1 rfl
  go_wp2_with fail
  refine (KJ.out _ J.out.rows).mono ?_
  rintro e Wn1 ⟨rfl, hb1⟩
  clear x0 x1
  replace J : Hid (JB Wn1 w.heap.size j (.slice ad n cap)) := J.out.below hb1
  replace P : Hid (PB Wn1 (w.heap.size + 1) p pv) := P.out.below hb1
  replace G : Hid (CB Wn1 (w.heap.size + 1 + 1) g gv) := G.out.below hb1
  replace R : Hid (QB Wn1 (w.heap.size + 1 + 1 + 1) [.slice none 0 0, .int .i64 0]) := R.out.below hb1
  replace S : Hid (Below w.heap.size w Wn1) := next S.out hb1
  clear hb1
  by_cases he1 : e1 = 0
  rotate_left
  · have q : (e1 != 0) = true := by rw [bne_iff_ne]; exact he1
    have q' : (e1 == 0) = false := by rw [beq_eq_false_iff_ne]; exact he1
    have HE1 : Hid (E = e1) := by show _ = _; rw [HE.out, if_neg he1]
    have HX1 : Hid (OJ = ⟨[], 0⟩ ∧ ON = 0) := by
      have hne : ¬ E = 0 := by rw [HE1.out]; exact he1
      show _ ∧ _; rw [HOJ.out, HON.out, if_neg hne, if_neg hne]; exact ⟨rfl, rfl⟩
    have RR : Hid (LRow Wn1 (w.heap.size + 1 + 1 + 1) [.slice none 0 0, .int .i64 0]) := R.out.row
    have o0 := RR.out.cell 0 rfl
    have f0 := RR.out.frozen 0 rfl
    have o1 := RR.out.cell 1 rfl
    have f1 := RR.out.frozen 1 rfl
    clear he1
    go_wp2_with fail
    generalize hW2 : World.setCell _ _ _ = W2
    have HP : Hid (LRow W2 (w.heap.size + 1 + 1 + 1) [.slice none 0 0, .int .i64 0]) := by
      rw [← hW2]
      exact (RR.out.set 0 _).set 1 _
    have HB2 : Hid (Below w.heap.size w W2) := by
      rw [← hW2]
      iterate 2 refine Below.setCell ?_ (show w.heap.size ≤ w.heap.size + 1 + 1 + 1 by omega) _
      exact S.out
    clear hW2 o0 f0 o1 f1
    have p0 := HP.out.cell 0 rfl
    have p1 := HP.out.cell 1 rfl
    exact bodyPost_ret (v := .tuple #[.agg #[.slice none 0 0, .int .i64 0], .int .i64 0, .int .i64 e1]) (by simp [results, Try.results9, go_sem, p0, p1]) rfl ⟨.slice none 0 0, by rw [HX1.out.1, HX1.out.2, HE1.out], by rw [HX1.out.1]; exact World.ownsRow_nil _ _ _ _, HB2.out⟩
  have qe1 : (e1 == 0) = true := by rw [he1]; rfl
  have qne1 : (e1 != 0) = false := by rw [he1]; rfl
  have HHe1 : Hid (e1 = 0) := he1
  clear he1
  have x0 := P.out.row.cell 0 rfl
  have x1 := P.out.row.cell 1 rfl
  have x2 := P.out.row.cell 2 rfl
  have x3 := P.out.row.cell 3 rfl
  have x4 := P.out.row.cell 4 rfl
  have x5 := P.out.row.cell 5 rfl
  have x6 := P.out.row.cell 6 rfl
  have x7 := P.out.row.cell 7 rfl
  have x8 := P.out.row.cell 8 rfl
  have x9 := P.out.row.cell 9 rfl
  have x10 := P.out.row.cell 10 rfl
  have x11 := P.out.row.cell 11 rfl
  have x12 := P.out.row.cell 12 rfl
  go_wp2_with fail
  refine (KP.out _ P.out.rows).mono ?_
  rintro e Wn2 ⟨rfl, hb2⟩
  clear x0 x1 x2 x3 x4 x5 x6 x7 x8 x9 x10 x11 x12
  replace J : Hid (JB Wn2 w.heap.size j (.slice ad n cap)) := J.out.below hb2
  replace P : Hid (PB Wn2 (w.heap.size + 1) p pv) := P.out.below hb2
  replace G : Hid (CB Wn2 (w.heap.size + 1 + 1) g gv) := G.out.below hb2
  replace R : Hid (QB Wn2 (w.heap.size + 1 + 1 + 1) [.slice none 0 0, .int .i64 0]) := R.out.below hb2
  replace S : Hid (Below w.heap.size w Wn2) := next S.out hb2
  clear hb2
  by_cases he2 : e2 = 0
  rotate_left
  · have q : (e2 != 0) = true := by rw [bne_iff_ne]; exact he2
    have q' : (e2 == 0) = false := by rw [beq_eq_false_iff_ne]; exact he2
    have HE1 : Hid (E = e2) := by show _ = _; rw [HE.out, if_pos HHe1.out, if_neg he2]
    have HX1 : Hid (OJ = ⟨[], 0⟩ ∧ ON = 0) := by
      have hne : ¬ E = 0 := by rw [HE1.out]; exact he2
      show _ ∧ _; rw [HOJ.out, HON.out, if_neg hne, if_neg hne]; exact ⟨rfl, rfl⟩
    have RR : Hid (LRow Wn2 (w.heap.size + 1 + 1 + 1) [.slice none 0 0, .int .i64 0]) := R.out.row
    have o0 := RR.out.cell 0 rfl
    have f0 := RR.out.frozen 0 rfl
    have o1 := RR.out.cell 1 rfl
    have f1 := RR.out.frozen 1 rfl
    clear he2
    go_wp2_with fail
    generalize hW2 : World.setCell _ _ _ = W2
    have HP : Hid (LRow W2 (w.heap.size + 1 + 1 + 1) [.slice none 0 0, .int .i64 0]) := by
      rw [← hW2]
      exact (RR.out.set 0 _).set 1 _
    have HB2 : Hid (Below w.heap.size w W2) := by
      rw [← hW2]
      iterate 2 refine Below.setCell ?_ (show w.heap.size ≤ w.heap.size + 1 + 1 + 1 by omega) _
      exact S.out
    clear hW2 o0 f0 o1 f1
    have p0 := HP.out.cell 0 rfl
    have p1 := HP.out.cell 1 rfl
    exact bodyPost_ret (v := .tuple #[.agg #[.slice none 0 0, .int .i64 0], .int .i64 0, .int .i64 e2]) (by simp [results, Try.results9, go_sem, p0, p1]) rfl ⟨.slice none 0 0, by rw [HX1.out.1, HX1.out.2, HE1.out], by rw [HX1.out.1]; exact World.ownsRow_nil _ _ _ _, HB2.out⟩
  have qe2 : (e2 == 0) = true := by rw [he2]; rfl
  have qne2 : (e2 != 0) = false := by rw [he2]; rfl
  have HHe2 : Hid (e2 = 0) := he2
  clear he2
  have x0 := G.out.row.cell 0 rfl
  have x1 := G.out.row.cell 1 rfl
  have x2 := G.out.row.cell 2 rfl
  have x3 := G.out.row.cell 3 rfl
  have x4 := G.out.row.cell 4 rfl
  have x5 := G.out.row.cell 5 rfl
  have x6 := G.out.row.cell 6 rfl
  have x7 := G.out.row.cell 7 rfl
  have x8 := G.out.row.cell 8 rfl
  have x9 := G.out.row.cell 9 rfl
  have x10 := G.out.row.cell 10 rfl
  have x11 := G.out.row.cell 11 rfl
  go_wp2_with fail
  refine (KG.out _ G.out.rows).mono ?_
  rintro e Wn3 ⟨rfl, hb3⟩
  clear x0 x1 x2 x3 x4 x5 x6 x7 x8 x9 x10 x11
  replace J : Hid (JB Wn3 w.heap.size j (.slice ad n cap)) := J.out.below hb3
  replace P : Hid (PB Wn3 (w.heap.size + 1) p pv) := P.out.below hb3
  replace G : Hid (CB Wn3 (w.heap.size + 1 + 1) g gv) := G.out.below hb3
  replace R : Hid (QB Wn3 (w.heap.size + 1 + 1 + 1) [.slice none 0 0, .int .i64 0]) := R.out.below hb3
  replace S : Hid (Below w.heap.size w Wn3) := next S.out hb3
  clear hb3
  by_cases he3 : e3 = 0
  rotate_left
  · have q : (e3 != 0) = true := by rw [bne_iff_ne]; exact he3
    have q' : (e3 == 0) = false := by rw [beq_eq_false_iff_ne]; exact he3
    have HE1 : Hid (E = e3) := by show _ = _; rw [HE.out, if_pos HHe1.out, if_pos HHe2.out, if_neg he3]
    have HX1 : Hid (OJ = ⟨[], 0⟩ ∧ ON = 0) := by
      have hne : ¬ E = 0 := by rw [HE1.out]; exact he3
      show _ ∧ _; rw [HOJ.out, HON.out, if_neg hne, if_neg hne]; exact ⟨rfl, rfl⟩
    have RR : Hid (LRow Wn3 (w.heap.size + 1 + 1 + 1) [.slice none 0 0, .int .i64 0]) := R.out.row
    have o0 := RR.out.cell 0 rfl
    have f0 := RR.out.frozen 0 rfl
    have o1 := RR.out.cell 1 rfl
    have f1 := RR.out.frozen 1 rfl
    clear he3
    go_wp2_with fail
    generalize hW2 : World.setCell _ _ _ = W2
    have HP : Hid (LRow W2 (w.heap.size + 1 + 1 + 1) [.slice none 0 0, .int .i64 0]) := by
      rw [← hW2]
      exact (RR.out.set 0 _).set 1 _
    have HB2 : Hid (Below w.heap.size w W2) := by
      rw [← hW2]
      iterate 2 refine Below.setCell ?_ (show w.heap.size ≤ w.heap.size + 1 + 1 + 1 by omega) _
      exact S.out
    clear hW2 o0 f0 o1 f1
    have p0 := HP.out.cell 0 rfl
    have p1 := HP.out.cell 1 rfl
    exact bodyPost_ret (v := .tuple #[.agg #[.slice none 0 0, .int .i64 0], .int .i64 0, .int .i64 e3]) (by simp [results, Try.results9, go_sem, p0, p1]) rfl ⟨.slice none 0 0, by rw [HX1.out.1, HX1.out.2, HE1.out], by rw [HX1.out.1]; exact World.ownsRow_nil _ _ _ _, HB2.out⟩
  have qe3 : (e3 == 0) = true := by rw [he3]; rfl
  have qne3 : (e3 != 0) = false := by rw [he3]; rfl
  have HHe3 : Hid (e3 = 0) := he3
  clear he3
  go_wp2_with fail
  refine (KN.out _).mono ?_
  rintro e wn ⟨rfl, hwn⟩
  subst wn
  cases m
  · have HE1 : Hid (E = 3) := by show _ = _; rw [HE.out, if_pos HHe1.out, if_pos HHe2.out, if_pos HHe3.out]; rfl
    have HX1 : Hid (OJ = ⟨[], 0⟩ ∧ ON = 0) := by
      have hne : ¬ E = 0 := by rw [HE1.out]; decide
      show _ ∧ _; rw [HOJ.out, HON.out, if_neg hne, if_neg hne]; exact ⟨rfl, rfl⟩
    have RR : Hid (LRow Wn3 (w.heap.size + 1 + 1 + 1) [.slice none 0 0, .int .i64 0]) := R.out.row
    have o0 := RR.out.cell 0 rfl
    have f0 := RR.out.frozen 0 rfl
    have o1 := RR.out.cell 1 rfl
    have f1 := RR.out.frozen 1 rfl
    go_wp2_with fail
    generalize hW2 : World.setCell _ _ _ = W2
    have HP : Hid (LRow W2 (w.heap.size + 1 + 1 + 1) [.slice none 0 0, .int .i64 0]) := by
      rw [← hW2]
      exact (RR.out.set 0 _).set 1 _
    have HB2 : Hid (Below w.heap.size w W2) := by
      rw [← hW2]
      iterate 2 refine Below.setCell ?_ (show w.heap.size ≤ w.heap.size + 1 + 1 + 1 by omega) _
      exact S.out
    clear hW2 o0 f0 o1 f1
    have p0 := HP.out.cell 0 rfl
    have p1 := HP.out.cell 1 rfl
    exact bodyPost_ret (v := .tuple #[.agg #[.slice none 0 0, .int .i64 0], .int .i64 0, .int .i64 3]) (by simp [results, Try.results9, go_sem, p0, p1]) rfl ⟨.slice none 0 0, by rw [HX1.out.1, HX1.out.2, HE1.out], by rw [HX1.out.1]; exact World.ownsRow_nil _ _ _ _, HB2.out⟩
  have HE0 : Hid (E = 0) := by show _ = _; rw [HE.out, if_pos HHe1.out, if_pos HHe2.out, if_pos HHe3.out]; rfl
  have HX1 : Hid (OJ = ⟨keepL p g now l, j.next⟩ ∧ ON = (n : Int) - ((keepL p g now l).length : Int)) := by show _ ∧ _; rw [HOJ.out, HON.out, if_pos HE0.out, if_pos HE0.out, HN.out]; exact ⟨rfl, rfl⟩
  have hn12 : n ≤ 12 := HN12.out HE0.out
  have x0 := J.out.row.cell 0 rfl
  have x1 := J.out.row.cell 1 rfl
  obtain ⟨W1, hW1⟩ : ∃ W1, W1 = Wn3.alloc (.cells #[.slice none 0 0, .int .i64 j.next] 24) := ⟨_, rfl⟩
  obtain ⟨O, hO⟩ : ∃ O, O = Wn3.heap.size := ⟨_, rfl⟩
  have hc1 : Below Wn3.heap.size Wn3 W1 := by rw [hW1]; exact below_new _ _
  have HS1 : Hid (W1.heap.size = O + 1) := by show _ = _; rw [hW1, hO]; simp
  have U : Hid (QB W1 O [.slice none 0 0, .int .i64 j.next]) := by rw [hW1, hO]; exact QB.new Wn3 [.slice none 0 0, .int .i64 j.next] 24
  have HOw : Hid (w.heap.size + 4 ≤ O) := by have h1 := R.out.lt; show _ ≤ _; rw [hO]; omega
  have HW1 : Hid _ := hW1
  have HO : Hid _ := hO
  clear hW1
  replace J : Hid (JB W1 w.heap.size j (.slice ad n cap)) := J.out.below hc1
  replace P : Hid (PB W1 (w.heap.size + 1) p pv) := P.out.below hc1
  replace G : Hid (CB W1 (w.heap.size + 1 + 1) g gv) := G.out.below hc1
  replace R : Hid (QB W1 (w.heap.size + 1 + 1 + 1) [.slice none 0 0, .int .i64 0]) := R.out.below hc1
  replace S : Hid (Below w.heap.size w W1) := next S.out hc1
  go_upto_region 11 with fail
  rw [← HW1.out, ← HO.out]
  clear HW1 HO hO hc1 x0 x1
  go_wp2_with fail
  go_loopw [13, 14] (fun gn i wr => ∃ (k m gg : Nat) (vv : Value), k ≤ n ∧ i = .int .i64 (k : Int) ∧ gn = .int .i64 (gg : Int) ∧ gg + m = k ∧ Hid (m = (keepL p g now (l.take k)).length) ∧ Hid (LRow wr O [vv, .int .i64 j.next]) ∧ wr.ownsRow W1.heap.size 34 13 vv m ((keepL p g now (l.take k)).flatMap ckC) ∧ Hid (W1.grownBy wr (some O))) (fun _ i _ => n - (intOf i).toNat)
  case atStart => exact ⟨0, 0, 0, .slice none 0 0, Nat.zero_le _, rfl, rfl, rfl, rfl, U.out.row, World.ownsRow_nil _ _ _ _, ⟨rfl, rfl, rfl, Nat.le_refl _, fun _ _ _ => rfl⟩⟩
  case round =>
    obtain ⟨k, m, gg, vv, hk, rfl, rfl, hgm, hm, hrow, hown, hg⟩ := hrel
    obtain ⟨sad, scap, rfl⟩ := g_slice hown
    have HSG : Hid (Below w.heap.size w wr) := S.out.grown hg.out S.out.size (fun q e => by injection e with e; have := HOw.out; omega)
    have HOL : Hid (O < wr.heap.size ∧ W1.heap.size ≤ wr.heap.size) := ⟨by have := hg.out.size; have := HS1.out; omega, hg.out.size⟩
    have Jr : Hid (LRow wr w.heap.size (jaL j (.slice ad n cap))) := row_grown J.out.row hg.out (by have := HS1.out; have := HOw.out; omega) (fun e => by injection e with e; have := HOw.out; omega)
    have Pr : Hid (PB wr (w.heap.size + 1) p pv) := ⟨row_grown P.out.row hg.out (by have := HS1.out; have := HOw.out; omega) (fun e => by injection e with e; have := HOw.out; omega), Rows.below HRP.out HSG.out (Nat.le_refl _)⟩
    have Gr : Hid (CB wr (w.heap.size + 1 + 1) g gv) := ⟨row_grown G.out.row hg.out (by have := HS1.out; have := HOw.out; omega) (fun e => by injection e with e; have := HOw.out; omega), Rows.below HRG.out HSG.out (Nat.le_refl _)⟩
    have v0 := Jr.out.cell 0 rfl
    by_cases hlt : k < n
    · obtain ⟨c, e1⟩ : ∃ r, l[k]? = some r := ⟨_, List.getElem?_eq_getElem (by rw [← HN.out]; exact hlt)⟩
      obtain ⟨bl, ol, rfl, hbl, hcell⟩ := Rows.at HR.out rfl 12 (fun _ => rfl) k c e1
      have c0 : ∀ w', Below wr.heap.size wr w' → w'.cell? ⟨bl, ol + k * 13, none⟩ = some (.string (txt c.name)) := fun w' h => by have t := (HSG.out.cell (p := ⟨bl, ol + k * 13 + 0, none⟩) hbl).trans (hcell 0 _ rfl); rw [Nat.add_zero] at t; exact (h.cell (p := ⟨bl, ol + k * 13, none⟩) (cell_in t)).trans t
      have c1 : ∀ w', Below wr.heap.size wr w' → w'.cell? ⟨bl, ol + k * 13 + 1, none⟩ = some (.string (txt c.value)) := fun w' h => by have t := (HSG.out.cell (p := ⟨bl, ol + k * 13 + 1, none⟩) hbl).trans (hcell 1 _ rfl); exact (h.cell (p := ⟨bl, ol + k * 13 + 1, none⟩) (cell_in t)).trans t
      have c2 : ∀ w', Below wr.heap.size wr w' → w'.cell? ⟨bl, ol + k * 13 + 2, none⟩ = some (.string (txt c.domain)) := fun w' h => by have t := (HSG.out.cell (p := ⟨bl, ol + k * 13 + 2, none⟩) hbl).trans (hcell 2 _ rfl); exact (h.cell (p := ⟨bl, ol + k * 13 + 2, none⟩) (cell_in t)).trans t
      have c3 : ∀ w', Below wr.heap.size wr w' → w'.cell? ⟨bl, ol + k * 13 + 3, none⟩ = some (.string (txt c.path)) := fun w' h => by have t := (HSG.out.cell (p := ⟨bl, ol + k * 13 + 3, none⟩) hbl).trans (hcell 3 _ rfl); exact (h.cell (p := ⟨bl, ol + k * 13 + 3, none⟩) (cell_in t)).trans t
      have c4 : ∀ w', Below wr.heap.size wr w' → w'.cell? ⟨bl, ol + k * 13 + 4, none⟩ = some (.bool c.hostOnly) := fun w' h => by have t := (HSG.out.cell (p := ⟨bl, ol + k * 13 + 4, none⟩) hbl).trans (hcell 4 _ rfl); exact (h.cell (p := ⟨bl, ol + k * 13 + 4, none⟩) (cell_in t)).trans t
      have c5 : ∀ w', Below wr.heap.size wr w' → w'.cell? ⟨bl, ol + k * 13 + 5, none⟩ = some (.bool c.secure) := fun w' h => by have t := (HSG.out.cell (p := ⟨bl, ol + k * 13 + 5, none⟩) hbl).trans (hcell 5 _ rfl); exact (h.cell (p := ⟨bl, ol + k * 13 + 5, none⟩) (cell_in t)).trans t
      have c6 : ∀ w', Below wr.heap.size wr w' → w'.cell? ⟨bl, ol + k * 13 + 6, none⟩ = some (.bool c.httpOnly) := fun w' h => by have t := (HSG.out.cell (p := ⟨bl, ol + k * 13 + 6, none⟩) hbl).trans (hcell 6 _ rfl); exact (h.cell (p := ⟨bl, ol + k * 13 + 6, none⟩) (cell_in t)).trans t
      have c7 : ∀ w', Below wr.heap.size wr w' → w'.cell? ⟨bl, ol + k * 13 + 7, none⟩ = some (.bool c.lasting) := fun w' h => by have t := (HSG.out.cell (p := ⟨bl, ol + k * 13 + 7, none⟩) hbl).trans (hcell 7 _ rfl); exact (h.cell (p := ⟨bl, ol + k * 13 + 7, none⟩) (cell_in t)).trans t
      have c8 : ∀ w', Below wr.heap.size wr w' → w'.cell? ⟨bl, ol + k * 13 + 8, none⟩ = some (.int .i64 c.site) := fun w' h => by have t := (HSG.out.cell (p := ⟨bl, ol + k * 13 + 8, none⟩) hbl).trans (hcell 8 _ rfl); exact (h.cell (p := ⟨bl, ol + k * 13 + 8, none⟩) (cell_in t)).trans t
      have c9 : ∀ w', Below wr.heap.size wr w' → w'.cell? ⟨bl, ol + k * 13 + 9, none⟩ = some (.int .i64 c.expiry) := fun w' h => by have t := (HSG.out.cell (p := ⟨bl, ol + k * 13 + 9, none⟩) hbl).trans (hcell 9 _ rfl); exact (h.cell (p := ⟨bl, ol + k * 13 + 9, none⟩) (cell_in t)).trans t
      have c10 : ∀ w', Below wr.heap.size wr w' → w'.cell? ⟨bl, ol + k * 13 + 10, none⟩ = some (.int .i64 c.created) := fun w' h => by have t := (HSG.out.cell (p := ⟨bl, ol + k * 13 + 10, none⟩) hbl).trans (hcell 10 _ rfl); exact (h.cell (p := ⟨bl, ol + k * 13 + 10, none⟩) (cell_in t)).trans t
      have c11 : ∀ w', Below wr.heap.size wr w' → w'.cell? ⟨bl, ol + k * 13 + 11, none⟩ = some (.int .i64 c.used) := fun w' h => by have t := (HSG.out.cell (p := ⟨bl, ol + k * 13 + 11, none⟩) hbl).trans (hcell 11 _ rfl); exact (h.cell (p := ⟨bl, ol + k * 13 + 11, none⟩) (cell_in t)).trans t
      have c12 : ∀ w', Below wr.heap.size wr w' → w'.cell? ⟨bl, ol + k * 13 + 12, none⟩ = some (.int .i64 c.no) := fun w' h => by have t := (HSG.out.cell (p := ⟨bl, ol + k * 13 + 12, none⟩) hbl).trans (hcell 12 _ rfl); exact (h.cell (p := ⟨bl, ol + k * 13 + 12, none⟩) (cell_in t)).trans t
      have x0 : ∀ w', Below wr.heap.size wr w' → w'.cell? ⟨w.heap.size + 1, 0, none⟩ = some (pv) := fun w' h => (Pr.out.below h).row.cell 0 rfl
      have x1 : ∀ w', Below wr.heap.size wr w' → w'.cell? ⟨w.heap.size + 1, 1, none⟩ = some (.int .i64 p.dflt) := fun w' h => (Pr.out.below h).row.cell 1 rfl
      have x2 : ∀ w', Below wr.heap.size wr w' → w'.cell? ⟨w.heap.size + 1, 2, none⟩ = some (.int .i64 p.c0) := fun w' h => (Pr.out.below h).row.cell 2 rfl
      have x3 : ∀ w', Below wr.heap.size wr w' → w'.cell? ⟨w.heap.size + 1, 3, none⟩ = some (.int .i64 p.c1) := fun w' h => (Pr.out.below h).row.cell 3 rfl
      have x4 : ∀ w', Below wr.heap.size wr w' → w'.cell? ⟨w.heap.size + 1, 4, none⟩ = some (.int .i64 p.c2) := fun w' h => (Pr.out.below h).row.cell 4 rfl
      have x5 : ∀ w', Below wr.heap.size wr w' → w'.cell? ⟨w.heap.size + 1, 5, none⟩ = some (.int .i64 p.c3) := fun w' h => (Pr.out.below h).row.cell 5 rfl
      have x6 : ∀ w', Below wr.heap.size wr w' → w'.cell? ⟨w.heap.size + 1, 6, none⟩ = some (.int .i64 p.c4) := fun w' h => (Pr.out.below h).row.cell 6 rfl
      have x7 : ∀ w', Below wr.heap.size wr w' → w'.cell? ⟨w.heap.size + 1, 7, none⟩ = some (.int .i64 p.c5) := fun w' h => (Pr.out.below h).row.cell 7 rfl
      have x8 : ∀ w', Below wr.heap.size wr w' → w'.cell? ⟨w.heap.size + 1, 8, none⟩ = some (.int .i64 p.c6) := fun w' h => (Pr.out.below h).row.cell 8 rfl
      have x9 : ∀ w', Below wr.heap.size wr w' → w'.cell? ⟨w.heap.size + 1, 9, none⟩ = some (.int .i64 p.c7) := fun w' h => (Pr.out.below h).row.cell 9 rfl
      have x10 : ∀ w', Below wr.heap.size wr w' → w'.cell? ⟨w.heap.size + 1, 10, none⟩ = some (.int .i64 p.c8) := fun w' h => (Pr.out.below h).row.cell 10 rfl
      have x11 : ∀ w', Below wr.heap.size wr w' → w'.cell? ⟨w.heap.size + 1, 11, none⟩ = some (.int .i64 p.c9) := fun w' h => (Pr.out.below h).row.cell 11 rfl
      have x12 : ∀ w', Below wr.heap.size wr w' → w'.cell? ⟨w.heap.size + 1, 12, none⟩ = some (.int .i64 p.c10) := fun w' h => (Pr.out.below h).row.cell 12 rfl
      have y0 : ∀ w', Below wr.heap.size wr w' → w'.cell? ⟨w.heap.size + 1 + 1, 0, none⟩ = some (.int .i64 g.g) := fun w' h => (Gr.out.below h).row.cell 0 rfl
      have y1 : ∀ w', Below wr.heap.size wr w' → w'.cell? ⟨w.heap.size + 1 + 1, 1, none⟩ = some (.bool g.b0) := fun w' h => (Gr.out.below h).row.cell 1 rfl
      have y2 : ∀ w', Below wr.heap.size wr w' → w'.cell? ⟨w.heap.size + 1 + 1, 2, none⟩ = some (.bool g.b1) := fun w' h => (Gr.out.below h).row.cell 2 rfl
      have y3 : ∀ w', Below wr.heap.size wr w' → w'.cell? ⟨w.heap.size + 1 + 1, 3, none⟩ = some (.bool g.b2) := fun w' h => (Gr.out.below h).row.cell 3 rfl
      have y4 : ∀ w', Below wr.heap.size wr w' → w'.cell? ⟨w.heap.size + 1 + 1, 4, none⟩ = some (.bool g.b3) := fun w' h => (Gr.out.below h).row.cell 4 rfl
      have y5 : ∀ w', Below wr.heap.size wr w' → w'.cell? ⟨w.heap.size + 1 + 1, 5, none⟩ = some (.bool g.b4) := fun w' h => (Gr.out.below h).row.cell 5 rfl
      have y6 : ∀ w', Below wr.heap.size wr w' → w'.cell? ⟨w.heap.size + 1 + 1, 6, none⟩ = some (.bool g.b5) := fun w' h => (Gr.out.below h).row.cell 6 rfl
      have y7 : ∀ w', Below wr.heap.size wr w' → w'.cell? ⟨w.heap.size + 1 + 1, 7, none⟩ = some (.bool g.b6) := fun w' h => (Gr.out.below h).row.cell 7 rfl
      have y8 : ∀ w', Below wr.heap.size wr w' → w'.cell? ⟨w.heap.size + 1 + 1, 8, none⟩ = some (.bool g.b7) := fun w' h => (Gr.out.below h).row.cell 8 rfl
      have y9 : ∀ w', Below wr.heap.size wr w' → w'.cell? ⟨w.heap.size + 1 + 1, 9, none⟩ = some (.bool g.b8) := fun w' h => (Gr.out.below h).row.cell 9 rfl
      have y10 : ∀ w', Below wr.heap.size wr w' → w'.cell? ⟨w.heap.size + 1 + 1, 10, none⟩ = some (.bool g.b9) := fun w' h => (Gr.out.below h).row.cell 10 rfl
      have y11 : ∀ w', Below wr.heap.size wr w' → w'.cell? ⟨w.heap.size + 1 + 1, 11, none⟩ = some (gv) := fun w' h => (Gr.out.below h).row.cell 11 rfl
      have z0 : ∀ w', Below wr.heap.size wr w' → w'.cell? ⟨w.heap.size, 0, none⟩ = some (.slice (some ⟨bl, ol, none⟩) n cap) := fun w' h => (Jr.out.below h (cell_in v0)).cell 0 rfl
      have HCO := HCK.out c (List.mem_of_getElem? e1)
      obtain ⟨E2, hE2⟩ : ∃ E2, E2 = gateE p g c := ⟨_, rfl⟩
      obtain ⟨d, hd⟩ : ∃ d, d = gateC p g c := ⟨_, rfl⟩
      obtain ⟨lv, hlv⟩ : ∃ q, q = liveB d now := ⟨_, rfl⟩
      have hm12 : m ≤ 12 := by rw [hm.out]; exact Nat.le_trans (keepL_len _ _ _ _) (by rw [List.length_take]; omega)
      have KGt : Hid (∀ w', Rows w' pv ruC p.rules → Rows w' gv intF g.vs → Calls Try.prog 10 #[.agg #[pv, .int .i64 p.dflt, .int .i64 p.c0, .int .i64 p.c1, .int .i64 p.c2, .int .i64 p.c3, .int .i64 p.c4, .int .i64 p.c5, .int .i64 p.c6, .int .i64 p.c7, .int .i64 p.c8, .int .i64 p.c9, .int .i64 p.c10], .agg #[.int .i64 g.g, .bool g.b0, .bool g.b1, .bool g.b2, .bool g.b3, .bool g.b4, .bool g.b5, .bool g.b6, .bool g.b7, .bool g.b8, .bool g.b9, gv], .agg #[.string (txt c.name), .string (txt c.value), .string (txt c.domain), .string (txt c.path), .bool c.hostOnly, .bool c.secure, .bool c.httpOnly, .bool c.lasting, .int .i64 c.site, .int .i64 c.expiry, .int .i64 c.created, .int .i64 c.used, .int .i64 c.no]] w' fun e w'' => e = .returned (.tuple #[.agg #[.string (txt d.name), .string (txt d.value), .string (txt d.domain), .string (txt d.path), .bool d.hostOnly, .bool d.secure, .bool d.httpOnly, .bool d.lasting, .int .i64 d.site, .int .i64 d.expiry, .int .i64 d.created, .int .i64 d.used, .int .i64 d.no], .int .i64 E2]) ∧ Below w'.heap.size w' w'') := fun w' r1 r2 => by rw [hd, hE2]; exact gateOf_any p pv g gv c w' r1 HOP.out r2 HOG.out HCO.1 HCO.2
      have KLv : Hid (∀ w', Calls Try.prog 29 #[.agg #[.string (txt d.name), .string (txt d.value), .string (txt d.domain), .string (txt d.path), .bool d.hostOnly, .bool d.secure, .bool d.httpOnly, .bool d.lasting, .int .i64 d.site, .int .i64 d.expiry, .int .i64 d.created, .int .i64 d.used, .int .i64 d.no], .int .i64 now] w' fun e w'' => e = .returned (.bool lv) ∧ Below w'.heap.size w' w'') := fun w' => by rw [hlv]; exact isLiveP_any d now w'
      have HT1 : Hid (E2 = 0 → lv = true → keepL p g now (l.take (k + 1)) = keepL p g now (l.take k) ++ [d]) := fun h1 h2 => by
        have h0 : keep1 p g now c = some d := by unfold keep1; rw [if_pos ⟨by rw [← hE2]; exact h1, by rw [← hd, ← hlv]; exact h2⟩, hd]
        rw [List.take_succ, e1]; unfold keepL; rw [List.filterMap_append]; simp [h0]
      have HT0 : Hid (¬ (E2 = 0 ∧ lv = true) → keepL p g now (l.take (k + 1)) = keepL p g now (l.take k)) := fun h1 => by
        have h0 : keep1 p g now c = none := by unfold keep1; rw [if_neg (by rw [← hE2, ← hd, ← hlv]; exact h1)]
        rw [List.take_succ, e1]; unfold keepL; rw [List.filterMap_append]; simp [h0]
      clear e1 hcell hbl HCO hE2 hd hlv
      go_upto_region 15 with fail
      clear v0
      go_cut [15, 16] from 40 to 72 (fun s15 s16 wx => ∃ p15 : Nat, s15 = .pointer (some ⟨p15, 0, none⟩) ∧ s16 = .int .i64 E2 ∧ Hid (LRow wx p15 (ckC d)) ∧ Hid (Below wr.heap.size wr wx))
      case first =>
        go_region_held3 (fun w' => Below wr.heap.size wr w') (first | with_reducible assumption | ((repeat (first | with_reducible assumption | with_reducible refine Below.drew ?_ | with_reducible refine keepA ?_ _)); first | done | with_reducible exact Below.refl _ _) | fail)
          (first
          | (go_at_call 10
             refine (KGt.out _ (Rows.below Pr.out.rows (by first | exact (Below.refl _ wr).drew | exact keepA (Below.refl _ wr).drew _ | exact (keepA (Below.refl _ wr) _).drew) (Nat.le_refl _)) (Rows.below Gr.out.rows (by first | exact (Below.refl _ wr).drew | exact keepA (Below.refl _ wr).drew _ | exact (keepA (Below.refl _ wr) _).drew) (Nat.le_refl _))).mono ?_
             rintro e wC ⟨rfl, hbC⟩
             have hSC : Below wr.heap.size wr wC := Below.trans (by first | exact (Below.refl _ wr).drew | exact keepA (Below.refl _ wr).drew _ | exact (keepA (Below.refl _ wr) _).drew) (hbC.mono (by first | exact Nat.le_refl _ | simp))
             have HSC : Hid _ := hSC
             try (have nC : LRow wC wr.heap.size (ckC ckZ) := (LRow.new wr.drew (ckC ckZ) 34).below hbC (by simp)
                  have HE3 : Hid _ := set13 nC hSC (Nat.le_refl _) (.string (txt d.name)) (.string (txt d.value)) (.string (txt d.domain)) (.string (txt d.path)) (.bool d.hostOnly) (.bool d.secure) (.bool d.httpOnly) (.bool d.lasting) (.int .i64 d.site) (.int .i64 d.expiry) (.int .i64 d.created) (.int .i64 d.used) (.int .i64 d.no)
                  have hE2 := HE3.out.2
                  obtain ⟨k0, k1, k2, k3, k4, k5, k6, k7, k8, k9, k10, k11, k12⟩ := nC.cells13
                  obtain ⟨j0, j1, j2, j3, j4, j5, j6, j7, j8, j9, j10, j11, j12⟩ := nC.frozen13
                  clear nC)
             clear hbC)
          | fail)
        all_goals (go_wp2_with fail; go_meet)
        all_goals first
          | exact ⟨_, rfl, rfl, HE3.out.1, HE3.out.2⟩
          | exact ⟨_, rfl, rfl, LRow.new wC (ckC d) 34, keepA HSC.out _⟩
      case rest =>
      obtain ⟨p15, rfl, rfl, D, HSX⟩ := hcut
      rename World => W3
      have own3 := own_below hown HSX.out (Nat.le_refl _)
      have hrow3 : Hid (LRow W3 O [.slice sad m scap, .int .i64 j.next]) := hrow.out.below HSX.out HOL.out.1
      have HG3 : Hid (W1.grownBy W3 (some O)) := g_below hg.out HSX.out
      have HOL3 : Hid (O < W3.heap.size ∧ W1.heap.size ≤ W3.heap.size) := ⟨Nat.lt_of_lt_of_le HOL.out.1 HSX.out.size, Nat.le_trans HOL.out.2 HSX.out.size⟩
      clear hown KGt z0 c0 x0 c1 x1 c2 x2 c3 x3 c4 x4 c5 x5 c6 x6 c7 x7 c8 x8 c9 x9 c10 x10 c11 x11 c12 x12 y0 y1 y2 y3 y4 y5 y6 y7 y8 y9 y10 y11
      by_cases hE : E2 = 0
      rotate_left
      · have qe : (E2 == 0) = false := by rw [beq_eq_false_iff_ne]; exact hE
        have HT : Hid _ := HT0.out (fun h => hE h.1)
        clear hE
        go_wp2_with fail
        go_roundw
        case rel => exact ⟨k + 1, m, gg + 1, _, by omega, by push_cast; rfl, by push_cast; rfl, by omega, by show _ = _; rw [HT.out]; exact hm.out, hrow3, by rw [HT.out]; exact own3, HG3⟩
        case measure => simp [intOf]; omega
      have qe : (E2 == 0) = true := by rw [hE]; rfl
      have HE2 : Hid (E2 = 0) := hE
      clear hE
      have x0 := D.out.cell 0 rfl
      have x1 := D.out.cell 1 rfl
      have x2 := D.out.cell 2 rfl
      have x3 := D.out.cell 3 rfl
      have x4 := D.out.cell 4 rfl
      have x5 := D.out.cell 5 rfl
      have x6 := D.out.cell 6 rfl
      have x7 := D.out.cell 7 rfl
      have x8 := D.out.cell 8 rfl
      have x9 := D.out.cell 9 rfl
      have x10 := D.out.cell 10 rfl
      have x11 := D.out.cell 11 rfl
      have x12 := D.out.cell 12 rfl
      go_wp2_with fail
      refine (KLv.out _).mono ?_
      rintro e W4 ⟨rfl, hb5⟩
      have D4 : Hid (LRow W4 p15 (ckC d)) := D.out.below hb5 (cell_in (D.out.cell 0 rfl))
      have own4 := own_below own3 hb5 (Nat.le_refl _)
      have hrow4 : Hid (LRow W4 O [.slice sad m scap, .int .i64 j.next]) := hrow3.out.below hb5 HOL3.out.1
      have HG4 : Hid (W1.grownBy W4 (some O)) := g_below HG3.out hb5
      have HOL4 : Hid (O < W4.heap.size ∧ W1.heap.size ≤ W4.heap.size) := ⟨Nat.lt_of_lt_of_le HOL3.out.1 hb5.size, Nat.le_trans HOL3.out.2 hb5.size⟩
      clear hb5 own3 x0 x1 x2 x3 x4 x5 x6 x7 x8 x9 x10 x11 x12
      cases lv
      · have HT : Hid _ := HT0.out (fun h => by cases h.2)
        go_wp2_with fail
        go_roundw
        case rel => exact ⟨k + 1, m, gg + 1, _, by omega, by push_cast; rfl, by push_cast; rfl, by omega, by show _ = _; rw [HT.out]; exact hm.out, hrow4, by rw [HT.out]; exact own4, HG4⟩
        case measure => simp [intOf]; omega
      · have HT : Hid _ := HT1.out HE2.out rfl
        have x0 := D4.out.cell 0 rfl
        have x1 := D4.out.cell 1 rfl
        have x2 := D4.out.cell 2 rfl
        have x3 := D4.out.cell 3 rfl
        have x4 := D4.out.cell 4 rfl
        have x5 := D4.out.cell 5 rfl
        have x6 := D4.out.cell 6 rfl
        have x7 := D4.out.cell 7 rfl
        have x8 := D4.out.cell 8 rfl
        have x9 := D4.out.cell 9 rfl
        have x10 := D4.out.cell 10 rfl
        have x11 := D4.out.cell 11 rfl
        have x12 := D4.out.cell 12 rfl
        have c11 := hrow4.out.cell 0 rfl
        go_wp2_with (at_builtin; refine wpList_append_own _ rfl _ _ 22 rfl W1.heap.size 34 i0 _ 13 112 Try.underlying22 hi hz0 hz1 hz2 rfl (by decide) _ _ _ rfl (own4.alloc _) ⟨W4.heap.size, 0, none⟩ 1 1 (ckC d) rfl rfl (cellL_new W4 _ (ckC d) _ rfl) (by simp [ckC, Value.oneCell']) ?c1 ?c2 ?c3 ?_)
        case c1 => unfold maxLen; omega
        case c2 => omega
        case c3 => have := HOL4.out; simp; omega
        intro v5 w5 hown5 hg5 _
        have nbk : ∀ q, (Value.slice sad m scap).ownBlock = some q → W1.heap.size ≤ q := fun q e => (own4.lt q e).1
        have HR5 : Hid (LRow w5 O [.slice sad m scap, .int .i64 j.next]) := row_grown (hrow4.out.below (below_new _ _) HOL4.out.1) hg5 (by have := HOL4.out; simp; omega) (fun e => by have := nbk O e.symm; have := HS1.out; omega)
        have HGG : Hid (W1.grownBy w5 (some O)) := g_grown (g_below HG4.out (below_new _ _)) hg5 nbk
        obtain ⟨sad5, scap5, rfl⟩ := g_slice hown5
        have c0' := HR5.out.cell 0 rfl
        have f0' := HR5.out.frozen 0 rfl
        have HR6 : Hid (LRow (w5.setCell ⟨O, 0, none⟩ (.slice sad5 (m + 1) scap5)) O [.slice sad5 (m + 1) scap5, .int .i64 j.next]) := HR5.out.set 0 _
        have HG6 : Hid (W1.grownBy (w5.setCell ⟨O, 0, none⟩ (.slice sad5 (m + 1) scap5)) (some O)) := g_set HGG.out 0 _
        have HO6 : Hid ((w5.setCell ⟨O, 0, none⟩ (.slice sad5 (m + 1) scap5)).ownsRow W1.heap.size 34 13 (.slice sad5 (m + 1) scap5) (m + 1) ((keepL p g now (l.take k)).flatMap ckC ++ ckC d)) := own_set' hown5 (by have := HS1.out; omega)
        clear c11 hown5 hg5 own4 HR5 HGG
        go_wp2_with fail
        go_roundw
        case rel =>
          refine ⟨k + 1, m + 1, gg, _, by omega, by push_cast; rfl, rfl, by omega, ?_, HR6, ?_, HG6⟩
          · show _ = _
            rw [HT.out, List.length_append, ← hm.out]; rfl
          · rw [HT.out, List.flatMap_append]
            have := HO6.out
            simpa using this
        case measure => simp [intOf]; omega
    · obtain rfl : k = n := by omega
      have hall : l.take k = l := by rw [HN.out]; exact List.take_length
      have HM : Hid (m = (keepL p g now l).length) := by have := hm.out; rw [hall] at this; exact this
      rw [hall] at hown
      have HOWN : Hid _ := hown
      have RR : Hid (LRow wr (w.heap.size + 1 + 1 + 1) [.slice none 0 0, .int .i64 0]) := row_grown R.out.row hg.out (by have := HS1.out; have := HOw.out; omega) (fun e => by injection e with e; have := HOw.out; omega)
      have hgk : (gg : Int) = (k : Int) - (m : Int) := by omega
      have HGK : Hid _ := hgk
      clear hown hm hall hgk hgm
      have u0 := hrow.out.cell 0 rfl
      have u1 := hrow.out.cell 1 rfl
      have o0 := RR.out.cell 0 rfl
      have f0 := RR.out.frozen 0 rfl
      have o1 := RR.out.cell 1 rfl
      have f1 := RR.out.frozen 1 rfl
      go_wp2_with fail
      generalize hW2 : World.setCell _ _ _ = W2
      have HP : Hid (LRow W2 (w.heap.size + 1 + 1 + 1) [.slice sad m scap, .int .i64 j.next]) := by
        rw [← hW2]
        exact (RR.out.set 0 _).set 1 _
      have HBr : Hid (Below w.heap.size w wr) := S.out.grown hg.out S.out.size (fun q e => by injection e with e; have := HOw.out; omega)
      have HB2 : Hid (Below w.heap.size w W2) := by
        rw [← hW2]
        iterate 2 refine Below.setCell ?_ (show w.heap.size ≤ w.heap.size + 1 + 1 + 1 by omega) _
        exact HBr.out
      have HOW2 : Hid (W2.ownsRow w.heap.size 34 13 (.slice sad m scap) m ((keepL p g now l).flatMap ckC)) := by
        have h6 : w.heap.size + 1 + 1 + 1 < W1.heap.size := by have := HOw.out; have := HS1.out; omega
        have hX : W2.ownsRow W1.heap.size 34 13 (.slice sad m scap) m ((keepL p g now l).flatMap ckC) := by
          rw [← hW2]
          iterate 2 refine own_set' ?_ h6
          exact HOWN.out
        exact g_lower hX S.out.size
      clear hW2 o0 f0 o1 f1 u0 u1
      have p0 := HP.out.cell 0 rfl
      have p1 := HP.out.cell 1 rfl
      exact bodyPost_ret (v := .tuple #[.agg #[.slice sad m scap, .int .i64 j.next], .int .i64 (gg : Int), .int .i64 0]) (by simp [results, Try.results9, go_sem, p0, p1]) rfl ⟨.slice sad m scap, by rw [HX1.out.1, HX1.out.2, HE0.out, ← HM.out, HGK.out], by rw [HX1.out.1]; show World.ownsRow _ _ _ _ _ _ _; rw [← HM.out]; exact HOW2.out, HB2.out⟩
end Go.Proofs.Ytcfdajaideidkaa
