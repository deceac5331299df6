/- The contract of Sort: what comes out is what was handed in, in the order in which cookies are sent. -/
import Derived.Test.YtoppjfambomdmaaSortC
import Derived.Test.YtoppjfambomdmaaKit4
import Derived.Lib.OwnBridge
import Derived.Lib.AppendIntMem
import Derived.Laws.OwnMore
import Derived.Shelf.RegionOpenPlain
namespace Go.Proofs.Ytoppjfambomdmaa
open Go.Shelf Go.RowKit Go.Lib Go.Sort
set_option linter.all false
set_option maxRecDepth 100000

instance : Inhabited Ck := ⟨⟨[], [], [], [], false, false, false, false, 0, 0, 0, 0, 0⟩⟩
def ltC (a b : Ck) : Bool := decide (cmpC a b < 0)
theorem ltC_iff (a b : Ck) : ltC a b = true ↔ b.path.length < a.path.length ∨ (a.path.length = b.path.length ∧ (a.created < b.created ∨ (a.created = b.created ∧ a.no < b.no))) := by
  unfold ltC cmpC or3 Lib.compareInt
  rw [decide_eq_true_eq]
  by_cases h1 : (b.path.length : Int) < (a.path.length : Int)
  · simp only [if_pos h1]
    rw [if_neg (by decide)]
    constructor
    · intro _; left; omega
    · intro _; decide
  · by_cases h2 : (b.path.length : Int) > (a.path.length : Int)
    · simp only [if_neg h1, if_pos h2]
      rw [if_neg (by decide)]
      constructor
      · intro h; omega
      · intro h; omega
    · simp only [if_neg h1, if_neg h2]
      rw [if_pos trivial]
      by_cases h3 : a.created < b.created
      · simp only [if_pos h3]
        rw [if_neg (by decide)]
        constructor
        · intro _; right; exact ⟨by omega, .inl h3⟩
        · intro _; decide
      · by_cases h4 : a.created > b.created
        · simp only [if_neg h3, if_pos h4]
          rw [if_neg (by decide)]
          constructor
          · intro h; omega
          · intro h; omega
        · simp only [if_neg h3, if_neg h4]
          rw [if_pos trivial]
          by_cases h5 : a.no < b.no
          · rw [if_pos h5]
            constructor
            · intro _; right; exact ⟨by omega, .inr ⟨by omega, h5⟩⟩
            · intro _; decide
          · by_cases h6 : a.no > b.no
            · rw [if_neg h5, if_pos h6]
              constructor
              · intro h; omega
              · intro h; omega
            · rw [if_neg h5, if_neg h6]
              constructor
              · intro h; omega
              · intro h; omega
theorem ltC_no (a b : Ck) : ltC a b = false ↔ ¬ (b.path.length < a.path.length ∨ (a.path.length = b.path.length ∧ (a.created < b.created ∨ (a.created = b.created ∧ a.no < b.no)))) := by
  rw [← ltC_iff]; cases ltC a b <;> simp
theorem swoC : SWO ltC where
  irrefl x := by rw [ltC_no]; omega
  trans x y z h1 h2 := by rw [ltC_iff] at *; omega
  ntrans x y z h1 h2 := by rw [ltC_no] at *; omega
def encT (x : Ck × Nat) : List Value := ckC x.1
def cfT (x y : Ck × Nat) : Int := cmpC x.1 y.1
theorem cf_lt : ltOf cfT = tagK ltC := rfl
theorem encT_len (x : Ck × Nat) : (encT x).length = 13 := rfl
theorem ckC_one (c : Ck) : ∀ v ∈ ckC c, v.oneCell' = true := by
  intro v hv
  simp only [ckC, List.mem_cons, List.not_mem_nil, or_false] at hv
  rcases hv with rfl | rfl | rfl | rfl | rfl | rfl | rfl | rfl | rfl | rfl | rfl | rfl | rfl <;> rfl
theorem cmp_lays (blk off size : Nat) (w : World) : CmpLays Try.prog 23 #[] encT 13 cfT blk off size w := fun m os dk _ x y => by
  rw [Array.append_empty]
  exact (cmp_any x.1 y.1 _).mono fun e w' ⟨h1, h2⟩ => ⟨h1, h2⟩
theorem enterC : ∀ args w, (callFunc 23 args).run Try.prog w = .ok (.enter 23 args) w := enters_of Try.func23 (by kernel_rfl) rfl
/-- a list with its places -/
def tagA (l : List Ck) : Array (Ck × Nat) := l.zipIdx.toArray
theorem tagA_size (l : List Ck) : (tagA l).size = l.length := by simp [tagA]
theorem tagA_at (l : List Ck) (i : Nat) (h : i < l.length) : (tagA l)[i]! = (l[i], i) := by
  unfold tagA
  rw [getElem!_pos _ _ (by simpa using h)]
  simp
theorem tagA_part (l : List Ck) (c : Nat) : Part c (tagA l) := by
  intro x y hx hy hyn
  rw [tagA_size] at hyn
  rw [tagA_at l x (by omega), tagA_at l y hyn]
  show x < y
  omega
/-- what sorting leaves -/
def IsSort (l s : List Ck) : Prop := ∃ t : List (Ck × Nat), s = t.map Prod.fst ∧ t.Perm l.zipIdx ∧ ∀ (i j : Nat) x y, i < j → t[i]? = some x → t[j]? = some y → tagL ltC y x = false
theorem isSort_of (l : List Ck) (d' : Array (Ck × Nat)) (hp : PermIn 0 (tagA l).size (tagA l) d') (hs : SortedIn (tagL ltC) 0 (tagA l).size d') : IsSort l (d'.toList.map Prod.fst) := by
  refine ⟨d'.toList, rfl, ?_, ?_⟩
  · have h := hp.2.2
    have e1 : d'.extract 0 (tagA l).size = d' := by rw [← hp.1]; exact Array.extract_size
    have e2 : (tagA l).extract 0 (tagA l).size = tagA l := Array.extract_size
    rw [e1, e2] at h
    exact h
  · intro i j x y hij hx hy
    have hj : j < d'.size := by simpa using (List.getElem?_eq_some_iff.1 hy).1
    have hi : i < d'.size := by omega
    have ex : d'[i]! = x := by
      rw [getElem!_pos d' i hi]
      rw [Array.getElem?_toList, Array.getElem?_eq_getElem hi] at hx
      exact Option.some.inj hx
    have ey : d'[j]! = y := by
      rw [getElem!_pos d' j hj]
      rw [Array.getElem?_toList, Array.getElem?_eq_getElem hj] at hy
      exact Option.some.inj hy
    rw [← ex, ← ey]
    exact hs i j (Nat.zero_le _) hij (by rw [← hp.1]; exact hj)
theorem holds_own {W : World} {base e g n cap : Nat} {l : List Ck} (h : W.ownsRow base e 13 (.slice (some ⟨g, 0, none⟩) n cap) n (l.flatMap ckC)) (hn : n = l.length) : HoldsK encT 13 W g 0 (tagA l) ∧ g < W.heap.size ∧ base ≤ g := by
  have hlt := h.lt g rfl
  refine ⟨?_, hlt.2, hlt.1⟩
  intro j hj
  rw [size_flatK, tagA_size] at hj
  have hq : j / 13 < l.length := by omega
  have hr : j % 13 < 13 := Nat.mod_lt _ (by decide)
  refine ⟨?_, ?_⟩
  · rw [Nat.zero_add, h.cellAt j (by omega)]
    have hf := flat_get ckC 13 (fun _ => rfl) l (j / 13) (j % 13) l[j / 13] (List.getElem?_eq_getElem hq) hr
    rw [show j / 13 * 13 + j % 13 = j by omega] at hf
    rw [hf, id, get_flatK _ _ _ _ (by rw [tagA_size]; exact hj), tagA_at l _ hq]
    have hl : j % 13 < (ckC l[j / 13]).length := hr
    rw [List.getElem?_eq_getElem hl]
    show _ = some ((encT (l[j / 13], j / 13))[j % 13]!)
    rw [getElem!_pos (encT (l[j / 13], j / 13)) (j % 13) hl]
    rfl
  · rcases h.2 with ⟨h', _⟩ | ⟨g', cap', cur, h', _, hg, _⟩
    · cases h'
    · injection h' with e1 e2 e3
      injection e1 with e1
      injection e1 with e1
      subst e1
      unfold World.frozen?
      rw [hg]
      simp
theorem rows_holds {W : World} {g cap : Nat} {d : Array (Ck × Nat)} (h : HoldsK encT 13 W g 0 d) : Rows W (.slice (some ⟨g, 0, none⟩) d.size cap) ckC (d.toList.map Prod.fst) := by
  refine ⟨_, cap, by rw [List.length_map, Array.length_toList], .inr ⟨g, 0, rfl, fun j u hj => ?_⟩⟩
  have hjl := (List.getElem?_eq_some_iff.1 hj).1
  have hlen : ((d.toList.map Prod.fst).flatMap ckC).length = d.size * 13 := by
    rw [flat_len ckC 13 (fun _ => rfl), List.length_map, Array.length_toList]
  rw [hlen] at hjl
  have hq : j / 13 < d.size := by omega
  have hr : j % 13 < 13 := Nat.mod_lt _ (by decide)
  have hc := (h.cell hq hr).1
  rw [show 0 + j / 13 * 13 + j % 13 = 0 + j by omega] at hc
  rw [hc, ← hj]
  have hf := flat_get ckC 13 (fun _ => rfl) (d.toList.map Prod.fst) (j / 13) (j % 13) d[j / 13]!.1 (by rw [List.getElem?_map, Array.getElem?_toList, Array.getElem?_eq_getElem hq, getElem!_pos d _ hq]; rfl) hr
  rw [show j / 13 * 13 + j % 13 = j by omega] at hf
  rw [hf]
  have hl : j % 13 < (ckC d[j / 13]!.1).length := hr
  rw [List.getElem?_eq_getElem hl]
  show some ((encT d[j / 13]!)[j % 13]!) = _
  rw [getElem!_pos (encT d[j / 13]!) (j % 13) hl]
  rfl
theorem below_swk {w0 W : World} {g : Nat} {d : Array (Ck × Nat)} (h : SWK encT 13 w0 g 0 d W) (hg : g < w0.heap.size) : Below g w0 W := by
  obtain ⟨n, os, rfl⟩ := h
  have h1 : Below g w0 (putRowK encT 13 (Sort.ahead w0 n) g 0 d) := below_putRow (Below.refl g w0) (Nat.le_refl _)
  have h2 := Lib.below_grow g (putRowK encT 13 (Sort.ahead w0 n) g 0 d) (Nat.le_trans (Nat.le_of_lt hg) h1.size) 0 os
  exact h1.trans h2
theorem info_ck : (Try.prog.info? 34).map (fun i => (i.zero, i.size, i.bytes)) = some (some (.agg #[.string ⟨#[]⟩, .string ⟨#[]⟩, .string ⟨#[]⟩, .string ⟨#[]⟩, .bool false, .bool false, .bool false, .bool false, .int .i64 0, .int .i64 0, .int .i64 0, .int .i64 0, .int .i64 0]), 13, 112) := by kernel_rfl
theorem info_parts' {x : Option TypeInfo} {z : Option Value} {a b : Nat} (h : x.map (fun i => (i.zero, i.size, i.bytes)) = some (z, a, b)) : ∃ i, x = some i ∧ i.zero = z ∧ i.size = a ∧ i.bytes = b := by
  cases x with
  | none => cases h
  | some i =>
    injection h with h
    injection h with h1 h2
    injection h2 with h2 h3
    exact ⟨i, rfl, h1, h2, h3⟩
set_option maxHeartbeats 2000000 in
theorem clone_any (ad : Addr) (n c : Nat) (l : List Ck) (w : World) (hn : n = l.length) (hbig : n * 112 ≤ 140737488355328) (hr : Rows w (.slice (some ad) n c) ckC l) :
    Calls Try.prog 21 #[.slice (some ad) n c] w fun e w' => ∃ v', e = .returned v' ∧ w'.ownsRow w.heap.size 34 13 v' n (l.flatMap ckC) ∧ v' ≠ .slice none 0 0 ∧ Below w.heap.size w w' := by
  obtain ⟨i0, hi, hz0, hz1, hz2⟩ := info_parts' info_ck
  have q22 : ∀ (w : World) (a : Option Addr) (n c n' c' : Nat), (binOp .eql 22 (.slice a n c) (.slice none n' c')).run Try.prog w = .ok (.bool a.isNone) w := fun w a n c n' c' => Lib.run_eql_slice_nil w _ _ a n c n' c' Try.underlying22
  have A : Aside (∀ j u, (l.flatMap ckC)[j]? = some u → w.cell? (ad.add j) = some u) := by
    obtain ⟨ad', cp, e, h⟩ := hr
    injection e with e1 e2 e3
    rcases h with h | ⟨b', off', had, h⟩
    · intro j u hj; rw [h] at hj; cases hj
    · rw [had] at e1
      injection e1 with e1
      intro j u hj
      rw [e1, Addr.add_lit]
      exact h j u hj
  have HL : Hid ((l.flatMap ckC).length = n * 13) := by rw [hn]; exact flat_len ckC 13 (fun _ => rfl) l
  have HO : Hid (∀ u ∈ l.flatMap ckC, u.oneCell' = true) := fun u hu => by
    obtain ⟨c, _, hu⟩ := List.mem_flatMap.1 hu
    exact ckC_one c u hu
  have HN : Hid (n ≤ maxLen) := by show _ ≤ _; unfold maxLen; omega
  clear hr hn
  go_enter Try.func21, Try.ntmps21
  go_wp2_with (at_builtin; refine wpList_append_own _ rfl _ _ 22 rfl w.heap.size 34 i0 _ 13 112 Try.underlying22 hi hz0 hz1 hz2 rfl (by decide) _ _ _ rfl (World.ownsRow_made w #[] 0 (Nat.le_refl _) (Nat.zero_le _) (by simp)) ad n c (l.flatMap ckC) rfl ?qc1 ?qc2 ?qc3 ?qc4 ?qc5 ?qc6 ?_)
  case qc1 => exact HL.out
  case qc2 =>
    intro j u hj
    exact Lib.cell?_alloc_some _ (A.out j u hj)
  case qc3 => exact HO.out
  case qc4 => rw [Nat.zero_add]; exact HN.out
  case qc5 => rw [Nat.zero_add]; exact hbig
  case qc6 => simp
  intro v' w1 hown hgrow hnil
  go_wp2_with fail
  go_ret
  refine ⟨v', rfl, by simpa using hown, ?_, ?_⟩
  · exact hnil
  · exact ((Below.refl _ w).alloc (Nat.le_refl _) _).grown hgrow (by simp) (by intro k hk; simp [Value.ownBlock] at hk; omega)
set_option maxHeartbeats 1000000 in
theorem clone_nil (n c : Nat) (w : World) : Calls Try.prog 21 #[.slice none n c] w fun e w' => e = .returned (.slice none 0 0) ∧ w' = w := by
  have q22 : ∀ (w : World) (a : Option Addr) (n c n' c' : Nat), (binOp .eql 22 (.slice a n c) (.slice none n' c')).run Try.prog w = .ok (.bool a.isNone) w := fun w a n c n' c' => Lib.run_eql_slice_nil w _ _ a n c n' c' Try.underlying22
  go_enter Try.func21, Try.ntmps21
  go_wp2_with fail
  go_ret
  exact ⟨rfl, rfl⟩
theorem stableA (g cap base e : Nat) (l : List Ck) (w : World) (h : w.ownsRow base e 13 (.slice (some ⟨g, 0, none⟩) l.length cap) l.length (l.flatMap ckC)) (hsz : l.length < 4611686018427387000) :
    Calls Try.prog 30 #[.slice (some ⟨g, 0, none⟩) l.length cap, .int .i64 l.length, .func (.func 23) #[] #[]] w fun e w' =>
      e = .returned (.tuple #[]) ∧ ∃ s, IsSort l s ∧ Rows w' (.slice (some ⟨g, 0, none⟩) l.length cap) ckC s ∧ Below g w w' := by
  obtain ⟨hH, hg, _⟩ := holds_own h rfl
  have R : RowK encT 13 w g 0 (tagA l) := ⟨encT_len, fun x => ckC_one x.1, hH, hg⟩
  have k := stable_any sp swoC encT cfT cf_lt 23 #[] g 0 cap (tagA l) w enterC (cmp_lays g 0 _ w) R (by rw [tagA_size]; exact hsz) (tagA_part l)
  have e1 := tagA_size l
  rw [e1] at k
  refine k.mono fun e w' ⟨he, d', hp, hs, S⟩ => ⟨he, d'.toList.map Prod.fst, isSort_of l d' (by rw [e1]; exact hp) (by rw [e1]; exact hs), ?_, below_swk S hg⟩
  have hd : d'.size = l.length := by rw [hp.1, e1]
  have hr := rows_holds (cap := cap) (S.holds hg hH (by rw [hd, e1]))
  rw [hd] at hr
  exact hr
set_option maxHeartbeats 1000000 in
theorem stableFunc_any (g cap base e : Nat) (l : List Ck) (w : World) (h : w.ownsRow base e 13 (.slice (some ⟨g, 0, none⟩) l.length cap) l.length (l.flatMap ckC)) (hsz : l.length < 4611686018427387000) :
    Calls Try.prog 22 #[.slice (some ⟨g, 0, none⟩) l.length cap, .func (.func 23) #[] #[]] w fun e w' =>
      e = .returned (.tuple #[]) ∧ ∃ s, IsSort l s ∧ Rows w' (.slice (some ⟨g, 0, none⟩) l.length cap) ckC s ∧ Below g w w' := by
  have k : Aside _ := stableA g cap base e l w h hsz
  clear h
  go_enter Try.func22, Try.ntmps22
  go_wp2_with fail
  refine Calls.mono k.out ?_
  rintro e w' ⟨rfl, s, h1, h2, h3⟩
  go_wp2_with fail
  go_end0
  exact ⟨rfl, s, h1, h2, h3⟩
set_option maxHeartbeats 1000000 in
theorem insertion_nil (w : World) (f : Value) (hf : ∃ q, f = .func (.func q) #[] #[]) : Calls Try.prog 35 #[.slice none 0 0, .int .i64 0, .int .i64 0, f] w fun e w' => e = .returned (.tuple #[]) ∧ w' = w := by
  obtain ⟨q, rfl⟩ := hf
  go_enter Try.func35, Try.ntmps35
  go_wp2_with fail
  refine wp_loop_rounds 1 ?_
  rw [rounds_succ]
  go_wp2_with fail
  go_end0
  exact ⟨rfl, rfl⟩
set_option maxHeartbeats 1000000 in
theorem stable_nil (w : World) (f : Value) (hf : ∃ q, f = .func (.func q) #[] #[]) : Calls Try.prog 22 #[.slice none 0 0, f] w fun e w' => e = .returned (.tuple #[]) ∧ w' = w := by
  obtain ⟨q, rfl⟩ := hf
  have K : Aside (Calls Try.prog 30 #[.slice none 0 0, .int .i64 0, .func (.func q) #[] #[]] w fun e w' => e = .returned (.tuple #[]) ∧ w' = w) := by
    show Calls _ _ _ _ _
    go_enter Try.func30, Try.ntmps30
    go_wp2_with fail
    refine wp_loop_rounds 1 ?_
    rw [rounds_succ]
    go_wp2_with fail
    refine (insertion_nil w _ ⟨q, rfl⟩).mono ?_
    rintro e w' ⟨rfl, rfl⟩
    go_wp2_with fail
    refine wp_loop_rounds 1 ?_
    rw [rounds_succ]
    go_wp2_with fail
    go_end0
    exact ⟨rfl, rfl⟩
  go_enter Try.func22, Try.ntmps22
  go_wp2_with fail
  refine Calls.mono K.out ?_
  rintro e w' ⟨rfl, rfl⟩
  go_wp2_with fail
  go_end0
  exact ⟨rfl, rfl⟩
end Go.Proofs.Ytoppjfambomdmaa
