/- The contract of Write. -/
import Derived.Test.YtoppjfambomdmaaLineA
import Derived.Test.YtoppjfambomdmaaWordF
namespace Go.Proofs.Ytoppjfambomdmaa
open Go.RowKit
set_option linter.all false
set_option maxRecDepth 100000

def oneL (c : Ck) : List UInt8 := c.name ++ 61 :: c.value
def wrL : List Ck → List UInt8
  | [] => []
  | [c] => oneL c
  | c :: d :: r => oneL c ++ 59 :: 32 :: wrL (d :: r)
theorem wrL_snoc (c : Ck) : ∀ l : List Ck, wrL (l ++ [c]) = if l = [] then oneL c else wrL l ++ 59 :: 32 :: oneL c
  | [] => rfl
  | [d] => by simp [wrL]
  | d :: e :: r => by
    have h := wrL_snoc c (e :: r)
    rw [if_neg (by simp)] at h ⊢
    show oneL d ++ 59 :: 32 :: wrL (e :: r ++ [c]) = (oneL d ++ 59 :: 32 :: wrL (e :: r)) ++ 59 :: 32 :: oneL c
    rw [h]; simp
theorem wrL_take (l : List Ck) (k : Nat) (c : Ck) (h : l[k]? = some c) : wrL (l.take (k + 1)) = if k = 0 then oneL c else wrL (l.take k) ++ 59 :: 32 :: oneL c := by
  obtain ⟨hk, rfl⟩ := List.getElem?_eq_some_iff.1 h
  rw [List.take_succ_eq_append_getElem hk, wrL_snoc]
  by_cases h0 : k = 0
  · subst h0; simp
  · rw [if_neg h0, if_neg (by intro e; have := congrArg List.length e; rw [List.length_take, List.length_nil] at this; omega)]
theorem wrL_mono (l : List Ck) : ∀ k, (wrL (l.take k)).length ≤ (wrL l).length := by
  intro k
  induction hk : l.length - k generalizing k with
  | zero => rw [List.take_of_length_le (by omega)]; exact Nat.le_refl _
  | succ n ih =>
    have h1 := ih (k + 1) (by omega)
    have h2 := wrL_take l k l[k] (List.getElem?_eq_getElem (by omega))
    refine Nat.le_trans ?_ h1
    rw [h2]
    by_cases h0 : k = 0
    · subst h0; simp [wrL]
    · rw [if_neg h0, List.length_append]; omega
theorem cell_of_blk {W : World} {X j : Nat} {cs : Array Value} {t : TypeId} {z : Nat × Nat} {v : Value} (h : W.heap[X]? = some (.cells cs t z)) (hv : cs[j]? = some v) : W.cell? ⟨X, j, none⟩ = some v := by
  unfold World.cell?
  simp only [h]
  exact hv
theorem app_keep {W W' : World} {base X n : Nat} {e t : TypeId} {v : Value} {xs : List Value} {cs : Array Value} {z : Nat × Nat} (own : W.ownsRow base e 1 v n xs) (blk : W.heap[X]? = some (.cells cs t z)) (hne : t ≠ e) (hg : W.grownBy W' v.ownBlock) : W'.heap[X]? = some (.cells cs t z) := by
  have hX : X < W.heap.size := by
    rcases Nat.lt_or_ge X W.heap.size with h | h
    · exact h
    · rw [Array.getElem?_eq_none h] at blk; cases blk
  have hb : v.ownBlock ≠ some X := by
    intro hv
    rcases own.2 with ⟨h, _⟩ | ⟨g, cap, cur, h, _, hcur, _⟩
    · rw [h] at hv; cases hv
    · rw [h] at hv
      have e1 : g = X := Option.some.inj hv
      subst e1
      rw [hcur] at blk
      injection blk with blk
      injection blk with _ e2 _
      exact hne e2.symm
  rw [← blk]
  exact hg.block X hX hb.symm
theorem heap_new (W : World) (o : Obj) : (W.alloc o).heap[W.heap.size]? = some o := by
  show (W.heap.push o)[W.heap.size]? = some o
  simp
theorem app_alloc {W : World} {X : Nat} {b : Obj} (blk : W.heap[X]? = some b) (o : Obj) : (W.alloc o).heap[X]? = some b := by
  have hX : X < W.heap.size := by
    rcases Nat.lt_or_ge X W.heap.size with h | h
    · exact h
    · rw [Array.getElem?_eq_none h] at blk; cases blk
  rw [Below.heap_alloc W o X hX]; exact blk
theorem info8 : ∃ i, Try.prog.info? 5 = some i ∧ i.zero = some (.int .u8 0) ∧ i.size = 1 ∧ i.bytes = 1 := by
  have h : (Try.prog.info? 5).map (fun i => (i.zero, i.size, i.bytes)) = some (some (.int .u8 0), 1, 1) := by kernel_rfl
  cases hx : Try.prog.info? 5 with
  | none => rw [hx] at h; cases h
  | some i =>
    rw [hx] at h
    injection h with h
    injection h with h1 h2
    injection h2 with h2 h3
    exact ⟨i, rfl, h1, h2, h3⟩
theorem cell1_new (W : World) (B : Nat) (x : Value) (t : TypeId) (hB : B = W.heap.size) : ∀ j u, [x][j]? = some u → (W.alloc (.cells #[x] t)).cell? ((⟨B, 0, none⟩ : Addr).add j) = some u := by
  subst hB
  intro j u hj
  match j, hj with
  | 0, hj => simp at hj; subst hj; simp [Addr.add]
theorem own_cast {W : World} {base : Nat} {e : TypeId} {size : Nat} {v : Value} {n n' : Nat} {cs cs' : List Value} (h : W.ownsRow base e size v n cs) (h1 : n' = n) (h2 : cs' = cs) : W.ownsRow base e size v n' cs' := by rw [h1, h2]; exact h
set_option maxHeartbeats 4000000 in
theorem write_any (vl : Value) (l : List Ck) (w : World) (hr : Rows w vl ckC l) (hm : l.length ≤ maxLen) (hj : (wrL l).length ≤ 140737488355328) :
    Calls Try.prog 13 #[vl] w fun e w' => e = .returned (.string (txt (wrL l))) ∧ Below w.heap.size w w' := by
  unfold maxLen at hm
  obtain ⟨i0, hi, hz0, hz1, hz2⟩ := info8
  have HR : Hid _ := hr
  obtain ⟨ad, cap, rfl⟩ := hr.shape
  clear hr
  go_enter Try.func13, Try.ntmps13
  go_wp2
  go_loopw [3, 8] (fun o i wr => ∃ k : Nat, k ≤ l.length ∧ i = .int .i64 k ∧ wr.ownsRow w.heap.size 5 1 o (wrL (l.take k)).length (bcells (wrL (l.take k))) ∧ Below w.heap.size w wr) (fun _ i _ => l.length - (intOf i).toNat)
  case atStart => exact ⟨0, Nat.zero_le _, rfl, by rw [List.take_zero]; exact World.ownsRow_nil _ _ _ _, Below.refl _ _⟩
  case round =>
    obtain ⟨k, hk, rfl, hown, hb⟩ := hrel
    by_cases hlt : k < l.length
    · have e1 := List.getElem?_eq_getElem hlt
      obtain ⟨c, hc⟩ : ∃ c, c = l[k] := ⟨_, rfl⟩
      rw [← hc] at e1
      obtain ⟨bl, ol, rfl, hbl, hcell⟩ := Rows.at HR.out rfl 12 (fun _ => rfl) k c e1
      have hcw : ∀ (i : Nat) u, (ckC c)[i]? = some u → wr.cell? ⟨bl, ol + k * 13 + i, none⟩ = some u := fun i u h => (hb.cell (p := ⟨bl, ol + k * 13 + i, none⟩) hbl).trans (hcell i u h)
      have p0 := hcw 0 _ rfl
      have p1 := hcw 1 _ rfl
      have p2 := hcw 2 _ rfl
      have p3 := hcw 3 _ rfl
      have p4 := hcw 4 _ rfl
      have p5 := hcw 5 _ rfl
      have p6 := hcw 6 _ rfl
      have p7 := hcw 7 _ rfl
      have p8 := hcw 8 _ rfl
      have p9 := hcw 9 _ rfl
      have p10 := hcw 10 _ rfl
      have p11 := hcw 11 _ rfl
      have p12 := hcw 12 _ rfl
      have HJ : Hid _ := wrL_take l k c e1
      have hlen1 := wrL_mono l (k + 1)
      rw [HJ.out] at hlen1
      obtain ⟨acc, hacc⟩ : ∃ acc, acc = wrL (l.take k) := ⟨_, rfl⟩
      rw [← hacc] at HJ hlen1 hown
      have own0 := hown.alloc (.cells #[.string (txt c.name), .string (txt c.value), .string (txt c.domain), .string (txt c.path), .bool c.hostOnly, .bool c.secure, .bool c.httpOnly, .bool c.lasting, .int .i64 c.site, .int .i64 c.expiry, .int .i64 c.created, .int .i64 c.used, .int .i64 c.no] 34)
      have blk0 : (wr.alloc (.cells #[.string (txt c.name), .string (txt c.value), .string (txt c.domain), .string (txt c.path), .bool c.hostOnly, .bool c.secure, .bool c.httpOnly, .bool c.lasting, .int .i64 c.site, .int .i64 c.expiry, .int .i64 c.created, .int .i64 c.used, .int .i64 c.no] 34)).heap[wr.heap.size]? = some (.cells #[.string (txt c.name), .string (txt c.value), .string (txt c.domain), .string (txt c.path), .bool c.hostOnly, .bool c.secure, .bool c.httpOnly, .bool c.lasting, .int .i64 c.site, .int .i64 c.expiry, .int .i64 c.created, .int .i64 c.used, .int .i64 c.no] 34 (0, 0)) := heap_new _ _
      have B0 : Below w.heap.size w (wr.alloc (.cells #[.string (txt c.name), .string (txt c.value), .string (txt c.domain), .string (txt c.path), .bool c.hostOnly, .bool c.secure, .bool c.httpOnly, .bool c.lasting, .int .i64 c.site, .int .i64 c.expiry, .int .i64 c.created, .int .i64 c.used, .int .i64 c.no] 34)) := hb.alloc hb.size _
      have HB : Hid (Below w.heap.size w wr) := hb
      clear hc e1 hcell hcw hown
      by_cases h0 : k = 0
      · subst h0
        rw [if_pos rfl] at HJ hlen1
        rw [Nat.zero_mul, Nat.add_zero] at p0 p1 p2 p3 p4 p5 p6 p7 p8 p9 p10 p11 p12
        obtain rfl : acc = [] := by rw [hacc, List.take_zero]; rfl
        clear hacc
        unfold oneL at hlen1
        simp only [List.length_append, List.length_cons] at hlen1
        go_wp2_with (at_builtin; refine Lib.wpList_append_own_string _ rfl _ _ 50 9 rfl w.heap.size 5 i0 Try.underlying50 Try.underlying9 hi hz0 hz1 hz2 _ _ _ rfl own0 _ rfl ?c1 ?c2 B0.size ?_)
        case c1 => show ([]).length + (c.name).length ≤ maxLen; unfold maxLen; simp only [List.length_append, List.length_cons, List.length_nil]; omega
        case c2 => show ([]).length + (c.name).length ≤ _; simp only [List.length_append, List.length_cons, List.length_nil]; omega
        intro v1 w1 hown1 hg1 _
        have own1 : w1.ownsRow w.heap.size 5 1 v1 (([]) ++ (c.name)).length (bcells (([]) ++ (c.name))) := by first | (rw [bcells_append, List.length_append]; exact hown1) | exact own_cast hown1 (by simp [txt_size]; try omega) (by simp [bcells_append, strCells_txt, bcells])
        have blk1 := app_keep own0 blk0 (by decide) hg1
        have B1 := B0.grown hg1 B0.size (fun q e => (own0.lt q e).1)
        clear hown1 hg1 own0 blk0 B0
        clear p0 p1 p2 p3 p4 p5 p6 p7 p8 p9 p10 p11 p12
        have d1a := cell_of_blk (j := 0) blk1 rfl
        have d1b := cell_of_blk (j := 1) blk1 rfl
        have blkx := app_alloc blk1 (.cells #[.int .u8 61] 5)
        have Bx : Below w.heap.size w (w1.alloc (.cells #[.int .u8 61] 5)) := B1.alloc B1.size _
        go_wp2_with (at_builtin; refine wpList_append_own _ rfl _ _ 50 rfl w.heap.size 5 i0 (.int .u8 0) 1 1 Try.underlying50 hi hz0 hz1 hz2 rfl (by decide) _ _ _ rfl (own1.alloc _) ⟨w1.heap.size, 0, none⟩ 1 1 [.int .u8 61] rfl rfl (cell1_new _ _ _ _ rfl) (by simp [Value.oneCell']) ?c1 ?c2 Bx.size ?_)
        case c1 => simp only [List.length_append, List.length_cons, List.length_nil]; unfold maxLen; omega
        case c2 => simp only [List.length_append, List.length_cons, List.length_nil]; omega
        intro v2 w2 hown2 hg2 _
        have own2 : w2.ownsRow w.heap.size 5 1 v2 (([] ++ c.name) ++ [61]).length (bcells (([] ++ c.name) ++ [61])) := by first | (rw [bcells_append, List.length_append]; exact hown2) | exact own_cast hown2 (by simp [txt_size]; try omega) (by simp [bcells_append, strCells_txt, bcells])
        have blk2 := app_keep (own1.alloc _) blkx (by decide) hg2
        have B2 := Bx.grown hg2 Bx.size (fun q e => (own1.lt q e).1)
        clear hown2 hg2 own1 blk1 B1 blkx Bx
        clear d1a d1b
        have d2a := cell_of_blk (j := 0) blk2 rfl
        have d2b := cell_of_blk (j := 1) blk2 rfl
        go_wp2_with (at_builtin; refine Lib.wpList_append_own_string _ rfl _ _ 50 9 rfl w.heap.size 5 i0 Try.underlying50 Try.underlying9 hi hz0 hz1 hz2 _ _ _ rfl own2 _ rfl ?c1 ?c2 B2.size ?_)
        case c1 => show (([] ++ c.name) ++ [61]).length + (c.value).length ≤ maxLen; unfold maxLen; simp only [List.length_append, List.length_cons, List.length_nil]; omega
        case c2 => show (([] ++ c.name) ++ [61]).length + (c.value).length ≤ _; simp only [List.length_append, List.length_cons, List.length_nil]; omega
        intro v3 w3 hown3 hg3 _
        have own3 : w3.ownsRow w.heap.size 5 1 v3 ((([] ++ c.name) ++ [61]) ++ (c.value)).length (bcells ((([] ++ c.name) ++ [61]) ++ (c.value))) := by first | (rw [bcells_append, List.length_append]; exact hown3) | exact own_cast hown3 (by simp [txt_size]; try omega) (by simp [bcells_append, strCells_txt, bcells])
        have blk3 := app_keep own2 blk2 (by decide) hg3
        have B3 := B2.grown hg3 B2.size (fun q e => (own2.lt q e).1)
        clear hown3 hg3 own2 blk2 B2
        have own9 : w3.ownsRow w.heap.size 5 1 v3 (wrL (l.take (0 + 1))).length (bcells (wrL (l.take (0 + 1)))) := by
          rw [HJ.out]
          unfold oneL
          simpa using own3
        clear own3
        go_wp2
        go_roundw
        case rel => exact ⟨1, by omega, by go_num, own9, B3⟩
        case measure => simp [intOf]; omega
      · have hkz : (0 : Int) < (k : Int) := by omega
        rw [Nat.add_zero] at p0
        rw [if_neg h0] at HJ hlen1
        clear hacc
        unfold oneL at hlen1
        simp only [List.length_append, List.length_cons] at hlen1
        go_wp2_with (at_builtin; refine Lib.wpList_append_own_string _ rfl _ _ 50 9 rfl w.heap.size 5 i0 Try.underlying50 Try.underlying9 hi hz0 hz1 hz2 _ _ _ rfl own0 _ rfl ?c1 ?c2 B0.size ?_)
        case c1 => show (acc).length + ([59, 32]).length ≤ maxLen; unfold maxLen; simp only [List.length_append, List.length_cons, List.length_nil]; omega
        case c2 => show (acc).length + ([59, 32]).length ≤ _; simp only [List.length_append, List.length_cons, List.length_nil]; omega
        intro v1 w1 hown1 hg1 _
        have own1 : w1.ownsRow w.heap.size 5 1 v1 ((acc) ++ ([59, 32])).length (bcells ((acc) ++ ([59, 32]))) := by first | (rw [bcells_append, List.length_append]; exact hown1) | exact own_cast hown1 (by simp [txt_size]; try omega) (by simp [bcells_append, strCells_txt, bcells])
        have blk1 := app_keep own0 blk0 (by decide) hg1
        have B1 := B0.grown hg1 B0.size (fun q e => (own0.lt q e).1)
        clear hown1 hg1 own0 blk0 B0
        clear p0 p1 p2 p3 p4 p5 p6 p7 p8 p9 p10 p11 p12
        have d1a := cell_of_blk (j := 0) blk1 rfl
        have d1b := cell_of_blk (j := 1) blk1 rfl
        go_wp2_with (at_builtin; refine Lib.wpList_append_own_string _ rfl _ _ 50 9 rfl w.heap.size 5 i0 Try.underlying50 Try.underlying9 hi hz0 hz1 hz2 _ _ _ rfl own1 _ rfl ?c1 ?c2 B1.size ?_)
        case c1 => show (acc ++ [59, 32]).length + (c.name).length ≤ maxLen; unfold maxLen; simp only [List.length_append, List.length_cons, List.length_nil]; omega
        case c2 => show (acc ++ [59, 32]).length + (c.name).length ≤ _; simp only [List.length_append, List.length_cons, List.length_nil]; omega
        intro v2 w2 hown2 hg2 _
        have own2 : w2.ownsRow w.heap.size 5 1 v2 ((acc ++ [59, 32]) ++ (c.name)).length (bcells ((acc ++ [59, 32]) ++ (c.name))) := by first | (rw [bcells_append, List.length_append]; exact hown2) | exact own_cast hown2 (by simp [txt_size]; try omega) (by simp [bcells_append, strCells_txt, bcells])
        have blk2 := app_keep own1 blk1 (by decide) hg2
        have B2 := B1.grown hg2 B1.size (fun q e => (own1.lt q e).1)
        clear hown2 hg2 own1 blk1 B1
        clear d1a d1b
        have d2a := cell_of_blk (j := 0) blk2 rfl
        have d2b := cell_of_blk (j := 1) blk2 rfl
        have blkx := app_alloc blk2 (.cells #[.int .u8 61] 5)
        have Bx : Below w.heap.size w (w2.alloc (.cells #[.int .u8 61] 5)) := B2.alloc B2.size _
        go_wp2_with (at_builtin; refine wpList_append_own _ rfl _ _ 50 rfl w.heap.size 5 i0 (.int .u8 0) 1 1 Try.underlying50 hi hz0 hz1 hz2 rfl (by decide) _ _ _ rfl (own2.alloc _) ⟨w2.heap.size, 0, none⟩ 1 1 [.int .u8 61] rfl rfl (cell1_new _ _ _ _ rfl) (by simp [Value.oneCell']) ?c1 ?c2 Bx.size ?_)
        case c1 => simp only [List.length_append, List.length_cons, List.length_nil]; unfold maxLen; omega
        case c2 => simp only [List.length_append, List.length_cons, List.length_nil]; omega
        intro v3 w3 hown3 hg3 _
        have own3 : w3.ownsRow w.heap.size 5 1 v3 (((acc ++ [59, 32]) ++ c.name) ++ [61]).length (bcells (((acc ++ [59, 32]) ++ c.name) ++ [61])) := by first | (rw [bcells_append, List.length_append]; exact hown3) | exact own_cast hown3 (by simp [txt_size]; try omega) (by simp [bcells_append, strCells_txt, bcells])
        have blk3 := app_keep (own2.alloc _) blkx (by decide) hg3
        have B3 := Bx.grown hg3 Bx.size (fun q e => (own2.lt q e).1)
        clear hown3 hg3 own2 blk2 B2 blkx Bx
        clear d2a d2b
        have d3a := cell_of_blk (j := 0) blk3 rfl
        have d3b := cell_of_blk (j := 1) blk3 rfl
        go_wp2_with (at_builtin; refine Lib.wpList_append_own_string _ rfl _ _ 50 9 rfl w.heap.size 5 i0 Try.underlying50 Try.underlying9 hi hz0 hz1 hz2 _ _ _ rfl own3 _ rfl ?c1 ?c2 B3.size ?_)
        case c1 => show (((acc ++ [59, 32]) ++ c.name) ++ [61]).length + (c.value).length ≤ maxLen; unfold maxLen; simp only [List.length_append, List.length_cons, List.length_nil]; omega
        case c2 => show (((acc ++ [59, 32]) ++ c.name) ++ [61]).length + (c.value).length ≤ _; simp only [List.length_append, List.length_cons, List.length_nil]; omega
        intro v4 w4 hown4 hg4 _
        have own4 : w4.ownsRow w.heap.size 5 1 v4 ((((acc ++ [59, 32]) ++ c.name) ++ [61]) ++ (c.value)).length (bcells ((((acc ++ [59, 32]) ++ c.name) ++ [61]) ++ (c.value))) := by first | (rw [bcells_append, List.length_append]; exact hown4) | exact own_cast hown4 (by simp [txt_size]; try omega) (by simp [bcells_append, strCells_txt, bcells])
        have blk4 := app_keep own3 blk3 (by decide) hg4
        have B4 := B3.grown hg4 B3.size (fun q e => (own3.lt q e).1)
        clear hown4 hg4 own3 blk3 B3
        have own9 : w4.ownsRow w.heap.size 5 1 v4 (wrL (l.take (k + 1))).length (bcells (wrL (l.take (k + 1)))) := by
          rw [HJ.out]
          unfold oneL
          simpa using own4
        clear own4
        go_wp2
        go_roundw
        case rel => exact ⟨k + 1, by omega, by go_num, own9, B4⟩
        case measure => simp [intOf]; omega
    · have HT : Hid (l.take k = l) := List.take_of_length_le (by omega)
      rw [HT.out] at hown
      have hcv := run_own_string (P := Try.prog) 50 9 5 Try.underlying50 Try.underlying5 Try.underlying9 _ hown
      go_wp2
      go_ret
      exact ⟨rfl, hb⟩
end Go.Proofs.Ytoppjfambomdmaa
