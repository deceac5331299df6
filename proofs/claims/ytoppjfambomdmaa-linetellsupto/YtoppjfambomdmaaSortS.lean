/- The library's stable sort of elements with tags: what it leaves is a permutation, sorted by the order in which of elements that are not told apart the one of the lesser tag comes first. -/
import Derived.Test.YtoppjfambomdmaaSortZ
namespace Go.Proofs.Ytoppjfambomdmaa
open Go.Shelf Go.RowKit Go.Lib Go.Sort
set_option linter.all false
set_option maxRecDepth 1000000
section
variable {β : Type} [Inhabited β] {lt : β → β → Bool}
theorem ins_tag (hlt : SWO lt) (dk : Array (β × Nat)) (x y : Nat) (hxy : x ≤ y) (hy : y ≤ dk.size) (hp : ∀ c, x ≤ c → Part c dk) :
    PermIn x y dk (insertionSort (tagK lt) dk x y) ∧ SortedIn (tagL lt) x y (insertionSort (tagK lt) dk x y) :=
  insertionSort_L (tag_swo hlt) dk x y hxy hy (fun i j hi hij hj => (hp j (by omega)).cross (lt := lt) x y (by omega) i j hi hij (Nat.le_refl _) hj)
theorem bu_more {B : Nat} {dk d1 : Array (β × Nat)} {x y : Nat} (h : Bu lt B dk x) (hp : ∀ c, x ≤ c → Part c dk) (hy : y = x + B) (hs : y ≤ dk.size) (hpm : PermIn x y dk d1) (hsrt : SortedIn (tagL lt) x y d1) :
    Bu lt B d1 y ∧ ∀ c, y ≤ c → Part c d1 := by
  subst hy
  exact ⟨.step x (h.perm hpm hs (Nat.le_refl _)) ((hp x (Nat.le_refl _)).perm hpm hs (.inl (Nat.le_refl _))) (by rw [hpm.1]; exact hs) hsrt, fun c hc => (hp c (by omega)).perm hpm hs (.inr hc)⟩
theorem bu_end {B : Nat} {dk d1 : Array (β × Nat)} {x : Nat} (h : Bu lt B dk x) (hp : ∀ c, x ≤ c → Part c dk) (hy : dk.size < x + B) (hpm : PermIn x dk.size dk d1) (hsrt : SortedIn (tagL lt) x dk.size d1) : Bl lt B d1 0 := by
  refine (h.perm hpm (Nat.le_refl _) (Nat.le_refl _)).all ?_
  by_cases hx : x < dk.size
  · refine .step x (by rw [hpm.1]; exact hx) ((hp x (Nat.le_refl _)).perm hpm (Nat.le_refl _) (.inl (Nat.le_refl _))) ?_ (.done _ (by rw [hpm.1]; omega))
    rw [hpm.1, Nat.min_eq_right (by omega)]; exact hsrt
  · exact .done _ (by rw [hpm.1]; omega)
end
variable {P : Program} {k : Nat} {β : Type} [Inhabited β]
set_option maxHeartbeats 16000000 in
theorem stable_any (Z : SP P k) {lt : β → β → Bool} (hlt : SWO lt) (enc : β × Nat → List Value) (cf : β × Nat → β × Nat → Int) (hcf : ltOf cf = tagK lt) (g : Nat) (cb : Array Value) (blk off cap : Nat) (d : Array (β × Nat)) (w : World)
    (eg : ∀ args w, (callFunc g args).run P w = .ok (.enter g args) w) (hcmp : CmpLays P g cb enc k cf blk off d.size w) (R : RowK enc k w blk off d) (hsz : d.size < 4611686018427387000) (hall : ∀ c, Part c d) :
    Calls P 30 #[.slice (some ⟨blk, off, none⟩) d.size cap, .int .i64 d.size, .func (.func g) #[] cb] w fun e w' =>
      e = .returned (.tuple #[]) ∧ ∃ d', PermIn 0 d.size d d' ∧ SortedIn (tagL lt) 0 d.size d' ∧ SWK enc k w blk off d' w' := by
  have mixed := Z.mixed; have t0 := Z.t0; have a0 := Z.a0; have z0 := Z.z0; have v0 := Z.v0; have t3 := Z.t3; have a3 := Z.a3; have z3 := Z.z3; have v3 := Z.v3; have t4 := Z.t4; have a4 := Z.a4; have z4 := Z.z4; have v4 := Z.v4; have tU := Z.tU; have aU := Z.aU; have zU := Z.zU; have tS := Z.tS; have aS := Z.aS; have zS := Z.zS; have aF := Z.aF; have zF := Z.zF; have aE := Z.aE; have zE := Z.zE
  have eIn := Z.eIns
  have eSy := Z.eSym
  have FG := Z.fSta
  have HC : Aside _ := hcmp
  have S0 : Aside (SWK enc k w blk off d w) := SWK.start R.hH
  have HA : Aside _ := hall
  have HCF : Hid _ := hcf
  have HSY : Aside (∀ (a m b : Nat) (d' : Array (β × Nat)) (w' : World), d.size = d'.size → SWK enc k w blk off d' w' → a < m → m < b → b ≤ d'.size → SortedIn (tagL lt) a m d' → SortedIn (tagL lt) m b d' → Part m d' →
    Calls P 36 #[.slice (some ⟨blk, off, none⟩) d'.size cap, .int .i64 a, .int .i64 m, .int .i64 b, .func (.func g) #[] cb] w' fun e w'' =>
      e = .returned (.tuple #[]) ∧ ∃ d'', PermIn a b d' d'' ∧ SortedIn (tagL lt) a b d'' ∧ SWK enc k w blk off d'' w'') := fun a m b d' w' h1 S h2 h3 h4 s1 s2 hp =>
    sym_all Z (tag_swo hlt) enc cf g cb blk off cap d w eg hcmp R (by omega) (b - a) a m b d' w' (Nat.le_refl _) h1 S h2 h3 h4 s1 s2 (by rw [hcf]; exact hp.cross a b h4)
  clear hcmp hall hcf
  go_enter FG, Try.ntmps30
  go_wp2
  go_loopg [7, 8] (d.size + 20) (fun kx s7 s8 wr => ∃ (x y : Nat) (dk : Array (β × Nat)), s7 = .int .i64 x ∧ s8 = .int .i64 y ∧ y ≤ x + 20 ∧ x + 20 ≤ y ∧ x ≤ d.size ∧ d.size + 20 - x ≤ kx ∧ dk.size = d.size ∧ Aside (SWK enc k w blk off dk wr) ∧ Hid (Bu lt 20 dk x ∧ (∀ c, x ≤ c → Part c dk) ∧ PermIn 0 d.size d dk))
  case atStart => exact ⟨0, 20, d, rfl, rfl, by omega, by omega, by omega, by omega, rfl, S0, ⟨.zero, fun c _ => HA.out c, permIn_refl d 0 d.size⟩⟩
  case round =>
    clear S0
    obtain ⟨x, y, dk, rfl, rfl, hy1, hy2, hxn, hkx, hds, S1, HE⟩ := hrel
    by_cases hc : y ≤ d.size
    · have hcz : (y : Int) ≤ (d.size : Int) := by omega
      have h : Aside _ := insertion_any Z enc cf g cb blk off cap x y d dk w wr eg HC.out R (by omega) S1.out (by omega) (by omega) (by omega)
      rw [hds] at h
      clear S1
      go_wp2_with fail
      refine Calls.mono h.out ?_
      rintro e9 w1 ⟨rfl, S2⟩
      rw [HCF.out] at S2
      have hi := ins_tag hlt dk x y (by omega) (by omega) HE.out.2.1
      generalize insertionSort (tagK lt) dk x y = d1 at S2 hi
      have HB : Hid _ := bu_more HE.out.1 HE.out.2.1 (by omega) (by omega) hi.1 hi.2
      have HP : Hid (PermIn 0 d.size d d1) := permIn_trans _ _ _ _ _ HE.out.2.2 (permIn_mono _ _ x y 0 d.size (by omega) (by omega) (by omega) hi.1)
      have hd1 : d1.size = d.size := by rw [hi.1.1]; exact hds
      have S3 : Aside (SWK enc k w blk off d1 w1) := S2
      clear h hi S2 HE
      go_wp2_with fail
      go_roundg (d.size + 20 - y)
      case measure => omega
      case rel => exact ⟨y, y + 20, d1, rfl, by go_num, by omega, by omega, hc, Nat.le_refl _, hd1, S3, ⟨HB.out.1, HB.out.2, HP.out⟩⟩
    · have hcz : ¬ (y : Int) ≤ (d.size : Int) := by omega
      have h : Aside _ := insertion_any Z enc cf g cb blk off cap x d.size d dk w wr eg HC.out R (by omega) S1.out (by omega) (by omega) (by omega)
      rw [hds] at h
      clear S1
      go_wp2_with fail
      refine Calls.mono h.out ?_
      rintro e9 w1 ⟨rfl, S2⟩
      rw [HCF.out] at S2
      have hi := ins_tag hlt dk x d.size (by omega) (by omega) HE.out.2.1
      generalize insertionSort (tagK lt) dk x d.size = d1 at S2 hi
      have HB : Hid (Bl lt 20 d1 0) := bu_end HE.out.1 HE.out.2.1 (by omega) (by rw [hds]; exact hi.1) (by rw [hds]; exact hi.2)
      have HP : Hid (PermIn 0 d.size d d1) := permIn_trans _ _ _ _ _ HE.out.2.2 (permIn_mono _ _ x d.size 0 d.size (by omega) (by omega) (by omega) hi.1)
      have hd1 : d1.size = d.size := by rw [hi.1.1]; exact hds
      have S3 : Aside (SWK enc k w blk off d1 w1) := S2
      clear h hi S2 HE
      go_wp2_with fail
      go_loopg [6, 7, 8, 9] d.size (fun kx s6 s7 s8 s9 wr => ∃ (B : Nat) (dk : Array (β × Nat)), s6 = .int .i64 B ∧ 0 < B ∧ B ≤ 2 * d.size + 20 ∧ d.size - B ≤ kx ∧ dk.size = d.size ∧ Aside (SWK enc k w blk off dk wr) ∧ Hid (Bl lt B dk 0 ∧ PermIn 0 d.size d dk))
      case atStart => exact ⟨20, d1, rfl, by omega, by omega, by omega, hd1, S3, ⟨HB.out, HP.out⟩⟩
      case round =>
        clear S3 HB HP hd1 hcz hc hkx hds hy1 hy2 hxn
        obtain ⟨B, db, rfl, hB, hBn, hkx, hds, S1, HE⟩ := hrel
        by_cases hlt2 : B < d.size
        · have hltz : (B : Int) < (d.size : Int) := by omega
          go_wp2_with fail
          go_loopg [7, 8] (d.size + 2 * B) (fun kx s7 s8 wr => ∃ (x y : Nat) (dk : Array (β × Nat)), s7 = .int .i64 x ∧ s8 = .int .i64 y ∧ y ≤ x + 2 * B ∧ x + 2 * B ≤ y ∧ x ≤ d.size ∧ d.size + 2 * B - x ≤ kx ∧ dk.size = d.size ∧ Aside (SWK enc k w blk off dk wr) ∧ Hid (Bu lt (2 * B) dk x ∧ Bl lt B dk x ∧ PermIn 0 d.size d dk))
          case atStart => exact ⟨0, 2 * B, db, rfl, by go_num, by omega, by omega, by omega, by omega, hds, S1, ⟨.zero, HE.out.1, HE.out.2⟩⟩
          case round =>
            clear S1 HE hds
            obtain ⟨x, y, dk, rfl, rfl, hy1, hy2, hxn, hkx2, hds, S1, HE⟩ := hrel
            obtain ⟨mm, hmm⟩ : ∃ q, q = x + B := ⟨_, rfl⟩
            have em : (x : Int) + (B : Int) = (mm : Int) := by omega
            have mm1 : mm ≤ x + B := by omega
            have mm2 : x + B ≤ mm := by omega
            have HMM : Hid _ := hmm
            clear hmm
            by_cases hc : y ≤ d.size
            · have hcz : (y : Int) ≤ (d.size : Int) := by omega
              have hey : y = x + 2 * B := by omega
              have h2 := HE.out.2.1.two (e := y) hB (by omega) (by rw [Nat.min_eq_left (by omega)]; exact hey)
              rw [← HMM.out] at h2
              have h : Aside _ := HSY.out x mm y dk wr (by omega) S1.out (by omega) (by omega) (by omega) h2.2.2.1 h2.2.2.2.1 h2.2.1
              rw [hds] at h
              have HEY : Hid _ := hey
              clear S1 h2 hey
              go_wp2_with fail
              refine Calls.mono h.out ?_
              rintro e9 w2 ⟨rfl, d2, hp2, hs2, S2⟩
              have hM : Hid (Bu lt (2 * B) d2 y ∧ Bl lt B d2 y) := by
                have e := HEY.out
                have h3 : PermIn x (x + 2 * B) dk d2 := by rw [← e]; exact hp2
                have h4 : SortedIn (tagL lt) x (x + 2 * B) d2 := by rw [← e]; exact hs2
                have h5 := Bl.merged hB HE.out.1 HE.out.2.1 (by omega) h3 h4
                rw [← e] at h5
                exact h5
              have HP : Hid (PermIn 0 d.size d d2) := permIn_trans _ _ _ _ _ HE.out.2.2 (permIn_mono _ _ x y 0 d.size (by omega) (by omega) (by omega) hp2)
              have hd2 : d2.size = d.size := by rw [hp2.1]; exact hds
              have S3 : Aside (SWK enc k w blk off d2 w2) := S2
              clear h hp2 hs2 S2 HE
              go_wp2_with fail
              go_roundg (d.size + 2 * B - y)
              case measure => omega
              case rel => exact ⟨y, y + 2 * B, d2, rfl, by go_num, by omega, by omega, hc, Nat.le_refl _, hd2, S3, ⟨hM.out.1, hM.out.2, HP.out⟩⟩
            · have hcz : ¬ (y : Int) ≤ (d.size : Int) := by omega
              by_cases hm : mm < d.size
              · have hmz : (mm : Int) < (d.size : Int) := by omega
                have h2 := HE.out.2.1.two (e := d.size) hB (by omega) (by rw [Nat.min_eq_right (by omega)]; exact hds.symm)
                rw [← HMM.out] at h2
                have h : Aside _ := HSY.out x mm d.size dk wr (by omega) S1.out (by omega) (by omega) (by omega) h2.2.2.1 h2.2.2.2.1 h2.2.1
                rw [hds] at h
                clear S1 h2
                go_wp2_with fail
                refine Calls.mono h.out ?_
                rintro e9 w2 ⟨rfl, d2, hp2, hs2, S2⟩
                have hM : Hid (Bl lt (2 * B) d2 0) := Bl.rest hB HE.out.1 HE.out.2.1 (by omega) (by omega) (by rw [hds]; exact hp2) (by rw [hds]; exact hs2)
                have HP : Hid (PermIn 0 d.size d d2) := permIn_trans _ _ _ _ _ HE.out.2.2 (permIn_mono _ _ x d.size 0 d.size (by omega) (by omega) (by omega) hp2)
                have hd2 : d2.size = d.size := by rw [hp2.1]; exact hds
                have S3 : Aside (SWK enc k w blk off d2 w2) := S2
                clear h hp2 hs2 S2 HE
                go_wp2_with fail
                go_roundg (d.size - 2 * B)
                case measure => omega
                case rel => exact ⟨2 * B, d2, by first | go_num | (congr 1; omega), by omega, by omega, Nat.le_refl _, hd2, S3, ⟨hM.out, HP.out⟩⟩
              · have hmz : ¬ (mm : Int) < (d.size : Int) := by omega
                have hM : Hid (Bl lt (2 * B) dk 0) := Bl.over hB HE.out.1 HE.out.2.1 (by omega)
                go_wp2_with fail
                go_roundg (d.size - 2 * B)
                case measure => omega
                case rel => exact ⟨2 * B, dk, by first | go_num | (congr 1; omega), by omega, by omega, Nat.le_refl _, hds, S1, ⟨hM.out, HE.out.2.2⟩⟩
        · have hltz : ¬ (B : Int) < (d.size : Int) := by omega
          go_wp2
          go_end0
          have h := Bl.end_ HE.out.1 (by omega)
          rw [hds] at h
          exact ⟨rfl, db, HE.out.2, h, S1.out⟩
end Go.Proofs.Ytoppjfambomdmaa
