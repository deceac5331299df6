/- How arguments that are structs and lists are read: what their cells tell, how long their texts are, their bulk. No walk. -/
import Derived.Test.YtcfdajaideidkaaOpen
import Derived.Test.YtcfdajaideidkaaKit4
import Derived.Deep.Slices
namespace Go.Proofs.Ytcfdajaideidkaa
open Go.ChangeShapes Go.WideShapes Go.ChangeAt Go.RowKit
open Go.ChangeMaps (open_string shut_string)
set_option linter.all false
set_option maxRecDepth 100000

/-- how a thing is told by n cells: with texts and lists no longer than the number; and how much it is -/
structure Way (α : Type) where
  n : Nat
  rel : Nat → World → List Value → α → Prop
  bulk : α → Nat
def Fits (m : Nat) (ws : List Nat) : Prop := maxLen ≤ m ∨ ∀ x ∈ ws, x ≤ m
theorem Fits.sub {m : Nat} {ws vs : List Nat} (h : Fits m ws) (hs : ∀ x ∈ vs, x ∈ ws) : Fits m vs := h.imp id (fun h x hx => h x (hs x hx))
theorem fits_max (ws : List Nat) : Fits maxLen ws := .inl (Nat.le_refl _)
def Opens (P : Program) (t : TypeId) {α : Type} (A : Way α) : Prop :=
  P.cellsOf t = A.n ∧ ∀ {H : Type} {enc : TypeId × Value → H} {W : World} {fuel : Nat} {cs : List Value} {x : DataW H × List MemPlace},
    DataW.trod enc P W 0 (fun _ => true) true fuel t cs = some x → cs.length = A.n ∧ ∃ a, (∀ m, Fits m (DataW.weights P t x.1) → A.rel m W cs a) ∧ A.bulk a ≤ Rows.uptoBulk x.1
def wInt : Way Int := ⟨1, fun _ _ cs z => cs = [.int .i64 z] ∧ (-9223372036854775808 ≤ z ∧ z ≤ 9223372036854775807), fun _ => 1⟩
def wStr : Way (List UInt8) := ⟨1, fun m _ cs s => cs = [.string (txt s)] ∧ s.length ≤ m, fun s => s.length + 1⟩
def wBool : Way Bool := ⟨1, fun _ _ cs b => cs = [.bool b], fun _ => 1⟩
def wU64 : Way UInt64 := ⟨1, fun _ _ cs z => cs = [.int .u64 (z.toNat : Int)], fun _ => 1⟩
def wPair {α β : Type} (A : Way α) (B : Way β) : Way (α × β) :=
  ⟨A.n + B.n, fun m W cs p => ∃ x y, cs = x ++ y ∧ x.length = A.n ∧ A.rel m W x p.1 ∧ B.rel m W y p.2, fun p => A.bulk p.1 + B.bulk p.2⟩
def wList {α : Type} (A : Way α) : Way (List α) :=
  ⟨1, fun m W cs l => ∃ ad cap, cs = [.slice ad l.length cap] ∧ l.length ≤ m ∧ (l = [] ∨ ∃ b off, ad = some ⟨b, off, none⟩ ∧ ∀ (k : Nat) a, l[k]? = some a →
      ∃ ds, ds.length = A.n ∧ (∀ (i : Nat) u, ds[i]? = some u → W.cell? ⟨b, off + k * A.n + i, none⟩ = some u) ∧ A.rel m W ds a), fun l => 1 + (l.map A.bulk).sum⟩

theorem opens_int {P : Program} {t : TypeId} (ht : P.underlying t = some (.int .i64)) (hc : P.cellsOf t = 1) : Opens P t wInt := by
  refine ⟨hc, fun {H enc W fuel cs x} h => ?_⟩
  obtain ⟨z, rfl, rfl, hw⟩ := DataW.trod_int ht h
  exact ⟨rfl, z, fun m _ => ⟨rfl, i64_of hw⟩, by simp [wInt, Rows.uptoBulk]⟩
theorem opens_str {P : Program} {t : TypeId} (ht : P.underlying t = some .string) (hc : P.cellsOf t = 1) : Opens P t wStr := by
  refine ⟨hc, fun {H enc W fuel cs x} h => ?_⟩
  obtain ⟨s, rfl, rfl, hw⟩ := DataW.trod_string ht h
  refine ⟨rfl, s.data.toList, fun m hm => ⟨rfl, ?_⟩, by simp [wStr, Rows.uptoBulk]⟩
  rcases hm with hm | hm
  · exact Nat.le_trans hw hm
  · exact hm _ (by simp [DataW.weights])
theorem opens_bool {P : Program} {t : TypeId} (ht : P.underlying t = some .bool) (hc : P.cellsOf t = 1) : Opens P t wBool := by
  refine ⟨hc, fun {H enc W fuel cs x} h => ?_⟩
  obtain ⟨b, rfl, rfl⟩ := DataW.trod_bool ht h
  exact ⟨rfl, b, fun m _ => rfl, by simp [wBool, Rows.uptoBulk]⟩
theorem u64_of {x : Int} (h : (Lit.int .u64 x).wf = true) : ∃ c : UInt64, x = (c.toNat : Int) := by
  have hx : 0 ≤ x ∧ x ≤ 18446744073709551615 := by simpa [Lit.wf, IntKind.min, IntKind.max, IntKind.signed, IntKind.bits] using h
  refine ⟨UInt64.ofNat x.toNat, ?_⟩
  rw [UInt64.toNat_ofNat']
  omega
theorem opens_u64 {P : Program} {t : TypeId} (ht : P.underlying t = some (.int .u64)) (hc : P.cellsOf t = 1) : Opens P t wU64 := by
  refine ⟨hc, fun {H enc W fuel cs x} h => ?_⟩
  obtain ⟨z, rfl, rfl, hw⟩ := DataW.trod_int ht h
  obtain ⟨c, rfl⟩ := u64_of hw
  exact ⟨rfl, c, fun m _ => rfl, by simp [wU64, Rows.uptoBulk]⟩

theorem list_choose {α : Type} {n : Nat} {p : Nat → α → Prop} (h : ∀ i, i < n → ∃ x, p i x) : ∃ l : List α, l.length = n ∧ ∀ (i : Nat) x, l[i]? = some x → p i x := by
  induction n with
  | zero => exact ⟨[], rfl, fun i x hx => by simp at hx⟩
  | succ n ih =>
    obtain ⟨l, hl, hp⟩ := ih (fun i hi => h i (by omega))
    obtain ⟨y, hy⟩ := h n (by omega)
    refine ⟨l ++ [y], by simp [hl], fun i x hx => ?_⟩
    rcases Nat.lt_or_ge i l.length with hi | hi
    · rw [List.getElem?_append_left hi] at hx; exact hp i x hx
    · rw [List.getElem?_append_right hi] at hx
      have : i - l.length = 0 := by
        rcases Nat.eq_zero_or_pos (i - l.length) with h0 | h0
        · exact h0
        · rw [List.getElem?_eq_none (by simp; omega)] at hx; cases hx
      rw [this] at hx
      have e : y = x := by simpa using hx
      have e2 : i = n := by omega
      rw [← e, e2]; exact hy
theorem bulkAll_sum {H : Type} (ds : List (DataW H)) : Rows.uptoBulkAll ds = (ds.map Rows.uptoBulk).sum := by
  induction ds with
  | nil => rfl
  | cons d ds ih => simp only [Rows.uptoBulkAll, List.map_cons, List.sum_cons, ih]
theorem sum_le {α β : Type} (f : α → Nat) (g : β → Nat) (l : List α) (r : List β) (hl : l.length = r.length) (h : ∀ (i : Nat) a b, l[i]? = some a → r[i]? = some b → f a ≤ g b) : (l.map f).sum ≤ (r.map g).sum := by
  induction l generalizing r with
  | nil => simp
  | cons a l ih =>
    cases r with
    | nil => simp at hl
    | cons b r =>
      simp only [List.map_cons, List.sum_cons]
      have h0 := h 0 a b rfl rfl
      have := ih r (by simpa using hl) (fun i x y hx hy => h (i + 1) x y (by simpa using hx) (by simpa using hy))
      omega
theorem weightsAll_mem {H : Type} {P : Program} {e : TypeId} {d : DataW H} {ds : List (DataW H)} (h : d ∈ ds) : ∀ x ∈ DataW.weights P e d, x ∈ DataW.weightsAll P e ds := by
  induction ds with
  | nil => cases h
  | cons y ds ih =>
    intro x hx
    simp only [DataW.weightsAll, List.mem_append]
    rw [List.mem_cons] at h
    rcases h with rfl | h
    · exact .inl hx
    · exact .inr (ih h x hx)
theorem add_none (b off i : Nat) : (Addr.add ⟨b, off, none⟩ i) = ⟨b, off + i, none⟩ := by
  unfold Addr.add
  by_cases h0 : i = 0
  · rw [if_pos h0, h0]; rfl
  · rw [if_neg h0]
theorem opens_list {P : Program} {t e : TypeId} {α : Type} {A : Way α} (ht : P.underlying t = some (.slice e)) (hc : P.cellsOf t = 1) (hp : 0 < A.n) (hby : 0 < P.bytesOf e) (ho : Opens P e A) : Opens P t (wList A) := by
  obtain ⟨hce, ho⟩ := ho
  refine ⟨hc, fun {H enc W fuel cs x} h => ?_⟩
  rcases Deep.open_slice ht h with ⟨rfl, rfl⟩ | ⟨a, len, m', m0, n, D, Pl, rfl, _, hl, hm, hmm, rfl, hx⟩
  · exact ⟨rfl, [], fun m _ => ⟨none, 0, rfl, Nat.zero_le _, .inl rfl⟩, by simp [wList, Rows.uptoBulk]⟩
  rw [if_pos rfl] at hmm
  subst hmm
  rw [hce] at hx
  obtain ⟨l, hll, hlp⟩ := list_choose (n := len) (p := fun i a' => ∃ cs', W.cells? 0 (a.add (i * A.n)) A.n = some cs' ∧ cs'.length = A.n ∧ (∀ m, Fits m (DataW.weights P e (D i)) → A.rel m W cs' a') ∧ A.bulk a' ≤ Rows.uptoBulk (D i)) (fun i hi => by
    obtain ⟨cs', h1, h2⟩ := hx i (by omega)
    obtain ⟨h3, a', h4, h5⟩ := ho h2
    exact ⟨a', cs', h1, h3, h4, h5⟩)
  refine ⟨rfl, l, fun m hfit => ⟨some a, m0, by rw [hll], ?_, ?_⟩, ?_⟩
  · rcases hfit with hf | hf
    · omega
    · have := hf ((len + (m0 - len)) * P.bytesOf e) (by simp [DataW.weights, ht])
      have h1 : (len + (m0 - len)) * 1 ≤ (len + (m0 - len)) * P.bytesOf e := Nat.mul_le_mul_left _ hby
      omega
  · by_cases h0 : len = 0
    · left; exact List.length_eq_zero_iff.1 (by omega)
    · right
      obtain ⟨b, off, sp⟩ := a
      have hsp : sp = none := by
        obtain ⟨cs', h1, _⟩ := hx 0 (by omega)
        obtain ⟨_, hlen, hcell⟩ := World.cells?_some h1
        have hc0 := hcell 0 hp
        rw [List.getElem?_eq_getElem (by omega)] at hc0
        have e0 : (Addr.add (Addr.add ⟨b, off, sp⟩ (0 * A.n)) 0) = ⟨b, off, sp⟩ := by simp [Addr.add]
        rw [e0] at hc0
        simpa using World.cell?_spot hc0
      subst hsp
      refine ⟨b, off, rfl, fun k a' ha => ?_⟩
      obtain ⟨cs', h1, h2, h3, _⟩ := hlp k a' ha
      obtain ⟨_, hlen, hcell⟩ := World.cells?_some h1
      have hk : k < len := by rw [← hll]; exact (List.getElem?_eq_some_iff.1 ha).1
      refine ⟨cs', h2, fun i u hu => ?_, h3 m (hfit.sub fun y hy => ?_)⟩
      · have hi : i < A.n := by rw [← h2]; exact (List.getElem?_eq_some_iff.1 hu).1
        have := hcell i hi
        rw [add_none, add_none] at this
        rw [this, hu]
      · simp only [DataW.weights, ht, List.mem_cons, List.mem_append]
        exact .inr (.inl (weightsAll_mem (d := D k) (List.mem_map.2 ⟨k, List.mem_range.2 hk, rfl⟩) y hy))
  · show 1 + (l.map A.bulk).sum ≤ Rows.uptoBulkAll ((List.range len).map D) + _ + 1
    rw [bulkAll_sum, List.map_map]
    have := sum_le A.bulk (Rows.uptoBulk ∘ D) l (List.range len) (by simp [hll]) (fun i x y hx hy => by
      obtain ⟨_, _, _, _, h5⟩ := hlp i x hx
      have hi : i < len := by rw [← hll]; exact (List.getElem?_eq_some_iff.1 hx).1
      rw [List.getElem?_range hi] at hy
      injection hy with hy
      subst hy
      exact h5)
    omega

/-- the fields of a struct, from an offset on -/
def OpensF (P : Program) (fs : List Field) (o : Nat) {α : Type} (A : Way α) : Prop :=
  ∀ {H : Type} {enc : TypeId × Value → H} {W : World} {n : Nat} {cs : List Value} {xs : List (DataW H × List MemPlace)}, xs.length = fs.length → cs.length = o + A.n →
    (∀ (i : Nat) (f : Field), fs[i]? = some f → DataW.trod enc P W 0 (fun _ => true) true n f.type ((cs.drop f.offset).take (P.cellsOf f.type)) = xs[i]?) →
    ∃ a, (∀ m, Fits m (DataW.weightsEach P (fs.map (·.type)) (xs.map (·.1))) → A.rel m W (cs.drop o) a) ∧ A.bulk a ≤ Rows.uptoBulkAll (xs.map (·.1))
theorem opensF_one {P : Program} {f : Field} {o : Nat} {α : Type} {A : Way α} (hof : f.offset = o) (ho : Opens P f.type A) : OpensF P [f] o A := by
  obtain ⟨hce, ho⟩ := ho
  intro H enc W n cs xs hxl hcl hx
  match xs, hxl with
  | [x], _ =>
    have h0 := hx 0 f rfl
    rw [hof, hce] at h0
    obtain ⟨h1, a, h2, h3⟩ := ho h0
    have e : (cs.drop o).take A.n = cs.drop o := List.take_of_length_le (by rw [List.length_drop]; omega)
    rw [e] at h2
    refine ⟨a, fun m hm => h2 m (hm.sub fun y hy => ?_), ?_⟩
    · simp only [List.map_cons, List.map_nil, DataW.weightsEach, List.append_nil]; exact hy
    · simp only [List.map_cons, List.map_nil, Rows.uptoBulkAll, Nat.add_zero]; exact h3
theorem opensF_cons {P : Program} {f : Field} {fs : List Field} {o : Nat} {α β : Type} {A : Way α} {B : Way β} (hof : f.offset = o) (ho : Opens P f.type A) (hr : OpensF P fs (o + A.n) B) : OpensF P (f :: fs) o (wPair A B) := by
  obtain ⟨hce, ho⟩ := ho
  intro H enc W n cs xs hxl hcl hx
  match xs, hxl with
  | x :: xs, hxl =>
    have h0 := hx 0 f rfl
    rw [hof, hce] at h0
    obtain ⟨h1, a, h2, h3⟩ := ho h0
    have hcl2 : cs.length = o + A.n + B.n := by rw [hcl]; show o + (A.n + B.n) = _; omega
    obtain ⟨b, h4, h5⟩ := hr (xs := xs) (by simpa using hxl) hcl2 (fun i g hg => by have := hx (i + 1) g (by simpa using hg); simpa using this)
    refine ⟨(a, b), fun m hm => ⟨(cs.drop o).take A.n, cs.drop (o + A.n), ?_, h1, h2 m (hm.sub fun y hy => ?_), h4 m (hm.sub fun y hy => ?_)⟩, ?_⟩
    · rw [← List.drop_drop, List.take_append_drop]
    · simp only [List.map_cons, DataW.weightsEach, List.mem_append]; exact .inl hy
    · simp only [List.map_cons, DataW.weightsEach, List.mem_append]; exact .inr hy
    · simp only [List.map_cons, Rows.uptoBulkAll, wPair]; omega
theorem opens_struct {P : Program} {t : TypeId} {fs : Array Field} {α : Type} {A : Way α} (ht : P.underlying t = some (.struct fs)) (hc : P.cellsOf t = A.n) (hf : OpensF P fs.toList 0 A) : Opens P t A := by
  refine ⟨hc, fun {H enc W fuel cs x} h => ?_⟩
  obtain ⟨xs, n, _, rfl, hl, hxl, hall⟩ := DataW.trod_struct ht h
  rw [hc] at hl
  obtain ⟨a, h1, h2⟩ := hf (W := W) (cs := cs) (xs := xs) (n := n) (by simpa using hxl) (by omega) (fun i f hi => hall i f (by simpa using hi))
  refine ⟨hl, a, fun m hm => h1 m (hm.sub fun y hy => ?_), ?_⟩
  · simp only [DataW.weights, ht]; exact hy
  · simp only [Rows.uptoBulk]; omega
/-- an argument, opened -/
theorem open_way {H : Type} {enc : TypeId × Value → H} {P : Program} {W : World} {t : TypeId} {v : Value} {d : DataW H} {ps : List MemPlace} {α : Type} {A : Way α} (ho : Opens P t A)
    (h : DataW.Trod enc P W 0 (fun _ => true) true t v d ps) : ∃ a, (∀ m, Fits m (DataW.weights P t d) → A.rel m W v.cells.toList a) ∧ A.bulk a ≤ Rows.uptoBulk d := by
  obtain ⟨fuel, hf⟩ := h
  exact (ho.2 hf).2
theorem fits_each {H : Type} {P : Program} {ts : List TypeId} {ds : List (DataW H)} (hsz : (DataW.weightsEach P ts ds).all (· ≤ reachBytes) = true) {j : Nat} {t : TypeId} {d : DataW H} (ht : ts[j]? = some t) (hd : ds[j]? = some d) : Fits 140737488351232 (DataW.weights P t d) :=
  .inr fun x hx => by
    have h : x ≤ reachBytes := by simpa using List.all_eq_true.1 hsz x (DataW.weights_mem_each ht hd x hx)
    exact h
/-- a slice's value is its cell -/
theorem slice_cells {P : Program} {W : World} {t e : TypeId} {base : Nat} {v : Value} (ht : P.underlying t = some (.slice e)) (hv : Value.okWide P W .any base t v) : v.cells.toList = [v] := by
  obtain ⟨a0, len, cap, rfl⟩ := okWide_slice ht hv
  rfl
theorem struct_cells {P : Program} {W : World} {t : TypeId} {fs : Array Field} {base : Nat} {v : Value} (ht : P.underlying t = some (.struct fs)) (hv : Value.okWide P W .any base t v) : v = .agg v.cells.toList.toArray := by
  obtain ⟨cs, rfl, _⟩ := okWide_struct ht hv
  simp [Value.cells]
theorem flat_len {α : Type} (f : α → List Value) (n : Nat) (hn : ∀ a, (f a).length = n) (l : List α) : (l.flatMap f).length = l.length * n := by
  induction l with
  | nil => simp
  | cons x l ih => rw [List.flatMap_cons, List.length_append, hn, ih, List.length_cons, Nat.succ_mul]; omega
/-- a list whose elements' cells are told by a function -/
theorem rows_of {α : Type} {A : Way α} {f : α → List Value} {m : Nat} {W : World} {v : Value} {l : List α} (hf : ∀ m W ds a, A.rel m W ds a → ds = f a) (hn : ∀ a, (f a).length = A.n) (h : (wList A).rel m W [v] l) : Rows W v f l := by
  obtain ⟨ad, cap, hv, _, h⟩ := h
  have hv : v = .slice ad l.length cap := by simpa using hv
  refine ⟨ad, cap, hv, ?_⟩
  rcases h with rfl | ⟨b, off, rfl, h⟩
  · exact .inl rfl
  · refine .inr ⟨b, off, rfl, fun j u hj => ?_⟩
    have hA : 0 < A.n := by
      rcases Nat.eq_zero_or_pos A.n with h0 | h0
      · have : l.flatMap f = [] := by
          rw [List.flatMap_eq_nil_iff]
          intro a _
          exact List.length_eq_zero_iff.1 (by rw [hn, h0])
        rw [this] at hj; simp at hj
      · exact h0
    have hlen : (l.flatMap f).length = l.length * A.n := flat_len f A.n hn l
    have hjl := (List.getElem?_eq_some_iff.1 hj).1
    rw [hlen] at hjl
    have hk : j / A.n < l.length := Nat.div_lt_of_lt_mul (by rw [Nat.mul_comm]; exact hjl)
    have hi : j % A.n < A.n := Nat.mod_lt _ hA
    have he : j / A.n * A.n + j % A.n = j := by rw [Nat.mul_comm]; exact Nat.div_add_mod _ _
    have ha : l[j / A.n]? = some l[j / A.n] := List.getElem?_eq_getElem hk
    obtain ⟨ds, _, hc, hr⟩ := h _ _ ha
    rw [hf _ _ _ _ hr] at hc
    have hg := flat_get f A.n hn l (j / A.n) (j % A.n) _ ha hi
    rw [he, hj] at hg
    have := hc (j % A.n) u hg.symm
    rw [Nat.add_assoc, he] at this
    exact this
theorem list_len {α : Type} {A : Way α} {m : Nat} {W : World} {v : Value} {l : List α} (h : (wList A).rel m W [v] l) : l.length ≤ m := by
  obtain ⟨_, _, _, h, _⟩ := h; exact h
theorem list_all {α : Type} {A : Way α} {m : Nat} {W : World} {v : Value} {l : List α} (h : (wList A).rel m W [v] l) : ∀ a ∈ l, ∃ ds, A.rel m W ds a := by
  intro a ha
  obtain ⟨_, _, _, _, h⟩ := h
  obtain ⟨k, hk⟩ := List.getElem?_of_mem ha
  rcases h with rfl | ⟨b, off, _, h⟩
  · cases hk
  · obtain ⟨ds, _, _, hr⟩ := h k a hk
    exact ⟨ds, hr⟩
end Go.Proofs.Ytcfdajaideidkaa
