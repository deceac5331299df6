/- Jars, told plainly: what is wrong with one, cookie by cookie. No walk. The maps of a jar's check: what lies in them. The contracts of the small calls of a jar's check. Which jars are right, by their cookies alone. No walk. -/
import Derived.Test.YtcfdajaideidkaaWho
import Derived.Test.YtcfdajaideidkaaClockM
import Derived.Test.YtcfdajaideidkaaGrantA
import Derived.Test.YtcfdajaideidkaaClockB
import Derived.Maps.OwnSet
import Derived.Maps.OwnOps
import Derived.DeepKeys4
import Derived.Test.YtcfdajaideidkaaKit5
namespace Go.Proofs.Ytcfdajaideidkaa
open Go.RowKit
set_option linter.all false
set_option maxRecDepth 100000

structure Ja where
  cks : List Ck
  next : Int
def jaL (j : Ja) (v : Value) : List Value := [v, .int .i64 j.next]
def sameK (a b : Ck) : Bool := a.name == b.name && (a.domain == b.domain && a.path == b.path)
theorem sameK_iff (a b : Ck) : sameK a b = true ↔ a.name = b.name ∧ a.domain = b.domain ∧ a.path = b.path := by
  unfold sameK
  simp only [Bool.and_eq_true, beq_iff_eq]
theorem sameK_refl (a : Ck) : sameK a a = true := (sameK_iff a a).2 ⟨rfl, rfl, rfl⟩
theorem sameK_symm (a b : Ck) : sameK a b = sameK b a := by
  rw [Bool.eq_iff_iff, sameK_iff, sameK_iff]
  exact ⟨fun ⟨h1, h2, h3⟩ => ⟨h1.symm, h2.symm, h3.symm⟩, fun ⟨h1, h2, h3⟩ => ⟨h1.symm, h2.symm, h3.symm⟩⟩
/-- how many are of a domain -/
def perD (l : List Ck) (d : List UInt8) : Nat := (l.filter (fun x => x.domain == d)).length
theorem perD_nil (d : List UInt8) : perD [] d = 0 := rfl
theorem perD_snoc (l : List Ck) (c : Ck) (d : List UInt8) : perD (l ++ [c]) d = perD l d + if c.domain = d then 1 else 0 := by
  unfold perD
  rw [List.filter_append, List.length_append]
  congr 1
  by_cases h : c.domain = d
  · rw [if_pos h, List.filter_cons_of_pos (by rw [h]; simp)]; rfl
  · rw [if_neg h, List.filter_cons_of_neg (by simpa using h)]; rfl
theorem perD_le (l : List Ck) (d : List UInt8) : perD l d ≤ l.length := List.length_filter_le _ _
/-- is one of these the same, or has one its number? -/
def twiceB (pre : List Ck) (c : Ck) : Bool := pre.any (fun x => sameK x c) || pre.any (fun x => x.no == c.no)
/-- what is wrong with a cookie behind these -/
def chK (next : Int) (pre : List Ck) (c : Ck) : Int :=
  if momB c.created = false ∨ momB c.used = false then 3
  else if c.no < 0 ∨ next ≤ c.no then 4
  else if twiceB pre c then 6
  else if 4 < perD pre c.domain + 1 then 2 else 0
def chKs (next : Int) : List Ck → List Ck → Int
  | _, [] => 0
  | pre, c :: r => if chK next pre c = 0 then chKs next (pre ++ [c]) r else chK next pre c
def chJ (j : Ja) : Int := if 12 < j.cks.length then 2 else if chKs j.next [] j.cks = 0 then (if j.next < 0 ∨ 1099511627776 < j.next then 3 else 0) else chKs j.next [] j.cks
theorem chKs_app (next : Int) (pre l : List Ck) (k : Nat) (c : Ck) (h : l[k]? = some c) (hall : ∀ (j : Nat) x, j < k → l[j]? = some x → chK next (pre ++ l.take j) x = 0) :
    chKs next pre l = if chK next (pre ++ l.take k) c = 0 then chKs next (pre ++ l.take (k + 1)) (l.drop (k + 1)) else chK next (pre ++ l.take k) c := by
  induction l generalizing pre k with
  | nil => simp at h
  | cons x l ih =>
    cases k with
    | zero =>
      simp at h
      subst h
      simp [chKs]
    | succ k =>
      have hx := hall 0 x (by omega) rfl
      simp only [List.take_zero, List.append_nil] at hx
      have := ih (pre ++ [x]) k (by simpa using h) (fun j y hj hy => by
        have := hall (j + 1) y (by omega) (by simpa using hy)
        simpa using this)
      show (if chK next pre x = 0 then chKs next (pre ++ [x]) l else chK next pre x) = _
      rw [if_pos hx, this]
      simp
theorem chKs_at (next : Int) (l : List Ck) (k : Nat) (c : Ck) (h : l[k]? = some c) (hall : ∀ (j : Nat) x, j < k → l[j]? = some x → chK next (l.take j) x = 0) :
    chKs next [] l = if chK next (l.take k) c = 0 then chKs next (l.take (k + 1)) (l.drop (k + 1)) else chK next (l.take k) c := by
  have := chKs_app next [] l k c h (by simpa using hall)
  simpa using this
theorem chKs_all (next : Int) (l : List Ck) (hall : ∀ (j : Nat) x, l[j]? = some x → chK next (l.take j) x = 0) : chKs next [] l = 0 := by
  rcases List.eq_nil_or_concat l with rfl | ⟨m, c, rfl⟩
  · rfl
  · rw [List.concat_eq_append] at hall ⊢
    have hc : (m ++ [c])[m.length]? = some c := by simp
    rw [chKs_at next (m ++ [c]) m.length c hc (fun j x _ hx => hall j x hx), if_pos (hall _ _ hc)]
    rw [List.drop_eq_nil_of_le (by simp)]; rfl
theorem chKs_each (next : Int) (pre l : List Ck) (h : chKs next pre l = 0) : ∀ (j : Nat) x, l[j]? = some x → chK next (pre ++ l.take j) x = 0 := by
  induction l generalizing pre with
  | nil => intro j x hx; simp at hx
  | cons c l ih =>
    unfold chKs at h
    by_cases hc : chK next pre c = 0
    · rw [if_pos hc] at h
      intro j x hx
      cases j with
      | zero => simp at hx; subst hx; simpa using hc
      | succ j => have := ih _ h j x (by simpa using hx); simpa using this
    · rw [if_neg hc] at h; exact absurd h hc
theorem chKs_iff (next : Int) (l : List Ck) : chKs next [] l = 0 ↔ ∀ (j : Nat) x, l[j]? = some x → chK next (l.take j) x = 0 :=
  ⟨fun h => by simpa using chKs_each next [] l h, chKs_all next l⟩
theorem chK_zero (next : Int) (pre : List Ck) (c : Ck) : chK next pre c = 0 ↔ (momB c.created = true ∧ momB c.used = true) ∧ (0 ≤ c.no ∧ c.no < next) ∧ twiceB pre c = false ∧ perD pre c.domain + 1 ≤ 4 := by
  unfold chK
  by_cases h1 : momB c.created = false ∨ momB c.used = false
  · rw [if_pos h1]
    refine ⟨fun h => absurd h (by decide), fun ⟨⟨a, b⟩, _⟩ => ?_⟩
    rcases h1 with h1 | h1
    · rw [h1] at a; cases a
    · rw [h1] at b; cases b
  · rw [if_neg h1]
    have g1 : momB c.created = true ∧ momB c.used = true := by
      cases e1 : momB c.created <;> cases e2 : momB c.used <;> simp_all
    by_cases h3 : c.no < 0 ∨ next ≤ c.no
    · rw [if_pos h3]
      exact ⟨fun h => absurd h (by decide), fun ⟨_, ⟨a, b⟩, _⟩ => by omega⟩
    · rw [if_neg h3]
      have g3 : 0 ≤ c.no ∧ c.no < next := by omega
      cases h4 : twiceB pre c
      · rw [if_neg (by decide)]
        by_cases h5 : 4 < perD pre c.domain + 1
        · rw [if_pos h5]
          exact ⟨fun h => absurd h (by decide), fun ⟨_, _, _, h⟩ => by omega⟩
        · rw [if_neg h5]
          exact ⟨fun _ => ⟨g1, g3, rfl, by omega⟩, fun _ => rfl⟩
      · rw [if_pos rfl]
        exact ⟨fun h => absurd h (by decide), fun ⟨_, _, h, _⟩ => by cases h⟩
end Go.Proofs.Ytcfdajaideidkaa
namespace Go.Proofs.Ytcfdajaideidkaa
open Go.RowKit Go.Maps
set_option linter.all false
set_option maxRecDepth 100000

theorem laid0 : laidOutB Try.prog = true := by kernel_rfl
theorem idWide : (match Try.prog.underlying 90 with | some (.array _ _) | some (.struct _) => true | _ => false) = true := by kernel_rfl
theorem idDeep : Try.prog.keyTypeAt (Try.prog.types.size + 1) 90 = true := by kernel_rfl
theorem idLaw : Keyed Try.prog 90 := Keyed.of_law (deep_law_laid laid0 (m := 2) (by omega) (of_decide_eq_true (by kernel_rfl)) (by kernel_rfl) idWide)
theorem strLaw : Keyed Try.prog 9 := string_keyed Try.underlying9
theorem intLaw : Keyed Try.prog 3 := int_keyed Try.underlying3
/-- a cookie's identity as a value, and as a key -/
def idV (c : Ck) : Value := .agg #[.string (txt c.name), .string (txt c.domain), .string (txt c.path)]
def kid (c : Ck) : Lit := .string (keyBytes [.string c.name, .string c.domain, .string c.path])
theorem idFormed (c : Ck) : (idV c).formed Try.prog 90 = true := by
  simp [Value.formed, Try.underlying90, show Try.prog.cellsOf 90 = 3 from by kernel_rfl, idV]
theorem kid_key (c : Ck) (h1 : c.name.length ≤ maxLen) (h2 : c.domain.length ≤ maxLen) (h3 : c.path.length ≤ maxLen) : keyOf Try.prog 90 (idV c) = some (kid c) := by
  have e1 : Try.prog.keyType 90 = true := idDeep
  have e2 : Try.prog.cellsOf 90 = 3 := by kernel_rfl
  have e3 : Try.prog.cellsOf 9 = 1 := by kernel_rfl
  have e4 : ∀ d s, s.size ≤ maxLen → Try.prog.keyLits (d + 1) 9 [.string s] = some [.string s.data.toList] := fun d s hs => by
    unfold Program.keyLits
    simp [Try.underlying9, hs]
  have e5 : ∀ d, Try.prog.keyLits (d + 2) 90 [.string (txt c.name), .string (txt c.domain), .string (txt c.path)] = some [.string c.name, .string c.domain, .string c.path] := fun d => by
    unfold Program.keyLits
    simp only [Try.underlying90]
    simp [e2, e3]
    rw [e4 d _ (by rw [txt_size]; exact h1), e4 d _ (by rw [txt_size]; exact h2), e4 d _ (by rw [txt_size]; exact h3)]
    rfl
  unfold keyOf
  rw [Try.underlying90]
  simp only [e1, idFormed, Bool.and_self, if_true]
  have e6 : Try.prog.types.size + 1 = (Try.prog.types.size - 1) + 2 := by
    have : 1 ≤ Try.prog.types.size := of_decide_eq_true (by kernel_rfl)
    omega
  rw [e6]
  show (Try.prog.keyLits _ _ [.string (txt c.name), .string (txt c.domain), .string (txt c.path)]).map _ = _
  rw [e5]
  rfl
theorem kid_inj (a b : Ck) (ha : a.name.length ≤ maxLen ∧ a.domain.length ≤ maxLen ∧ a.path.length ≤ maxLen) (hb : b.name.length ≤ maxLen ∧ b.domain.length ≤ maxLen ∧ b.path.length ≤ maxLen) : kid a = kid b ↔ sameK a b = true := by
  constructor
  · intro h
    have h1 := kid_key a ha.1 ha.2.1 ha.2.2
    have h2 := kid_key b hb.1 hb.2.1 hb.2.2
    rw [h] at h1
    have e := idLaw.inj h1 h2
    unfold idV at e
    injection e with e
    have e' := congrArg Array.toList e
    simp only [List.cons.injEq, Value.string.injEq] at e'
    rw [sameK_iff]
    exact ⟨congrArg (fun x => x.data.toList) e'.1, congrArg (fun x => x.data.toList) e'.2.1, congrArg (fun x => x.data.toList) e'.2.2.1⟩
  · intro h
    obtain ⟨h1, h2, h3⟩ := (sameK_iff a b).1 h
    unfold kid
    rw [h1, h2, h3]
/-- a cookie whose texts are texts of the machine -/
def KeyOk (c : Ck) : Prop := c.name.length ≤ maxLen ∧ c.domain.length ≤ maxLen ∧ c.path.length ≤ maxLen
/-- the three maps, told by the cookies so far -/
def sameD (l : List Ck) : DataW Unit := setOf (.agg []) (l.map kid)
def numD (l : List Ck) : DataW Unit := setOf (.agg []) (l.map fun c => Lit.int .i64 c.no)
def ofD : List Ck → DataW Unit := fun l => l.foldl (fun D c => D.put (.string c.domain) (.lit (.int .i64 ((match D.atKey (.string c.domain) (.lit (.int .i64 0)) with | .lit (.int _ z) => z | _ => 0) + 1)))) (.map [])
theorem sameD_snoc (l : List Ck) (c : Ck) : sameD (l ++ [c]) = (sameD l).put (kid c) (.agg []) := by
  unfold sameD; rw [List.map_append, List.map_singleton, setOf_snoc]
theorem numD_snoc (l : List Ck) (c : Ck) : numD (l ++ [c]) = (numD l).put (.int .i64 c.no) (.agg []) := by
  unfold numD; rw [List.map_append, List.map_singleton, setOf_snoc]
theorem sameD_has (l : List Ck) (c : Ck) (hl : ∀ x ∈ l, KeyOk x) (hc : KeyOk c) : Maps.has (sameD l) (kid c) = l.any (fun x => sameK x c) := by
  unfold sameD
  rw [has_setOf _ _ _ (fun y hy => by obtain ⟨_, _, rfl⟩ := List.mem_map.1 hy; trivial), List.any_map]
  induction l with
  | nil => rfl
  | cons a l ih =>
    rw [List.any_cons, List.any_cons, ih (fun x hx => hl x (by simp [hx]))]
    congr 1
    rw [Bool.eq_iff_iff, ← kid_inj a c (hl a (by simp)) hc]
    constructor
    · intro h; exact WideAt.sameKey_eq h
    · intro h; show (kid a).sameKey (kid c) = true; rw [h]; exact WideAt.sameKey_self trivial
theorem numD_has (l : List Ck) (c : Ck) : Maps.has (numD l) (.int .i64 c.no) = l.any (fun x => x.no == c.no) := by
  unfold numD
  rw [has_setOf _ _ _ (fun y hy => by obtain ⟨_, _, rfl⟩ := List.mem_map.1 hy; trivial), List.any_map]
  congr 1
  funext x
  show decide (IntKind.i64 = IntKind.i64 ∧ x.no = c.no) = (x.no == c.no)
  by_cases e : x.no = c.no <;> simp [e]
/-- the maps of a check, when the cookies of l were checked -/
structure MAt (W : World) (a b m : Nat) (l : List Ck) : Prop where
  same : W.ownsMap Try.prog 90 (unitElem (H := Unit)) a l.length (sameD l)
  num : W.ownsMap Try.prog 3 (unitElem (H := Unit)) b l.length (numD l)
  per : ∃ D, W.ownsMap Try.prog 9 (plainElem (H := Unit) Try.prog 3) m l.length D ∧ ∀ d : List UInt8, D.atKey (.string d) (.lit (.int .i64 0)) = .lit (.int .i64 (perD l d))
theorem map_kept {P : Program} {k : TypeId} {R : Value → Option (DataW Unit × List MemPlace)} {W W' : World} {b n : Nat} {D : DataW Unit} (h : W.ownsMap P k R b n D) (hb : W'.heap[b]? = W.heap[b]?) : W'.ownsMap P k R b n D := by
  obtain ⟨es, clock, h1, h2⟩ := h
  exact ⟨es, clock, hb.trans h1, h2⟩
theorem MAt.below {W W' : World} {a b m : Nat} {l : List Ck} (h : MAt W a b m l) (hb : Below W.heap.size W W') : MAt W' a b m l := by
  obtain ⟨D, h3, h4⟩ := h.per
  exact ⟨map_kept h.same (hb.block a h.same.lt), map_kept h.num (hb.block b h.num.lt), D, map_kept h3 (hb.block m h3.lt), h4⟩
theorem str_key (d : List UInt8) (h : d.length ≤ maxLen) : keyOf Try.prog 9 (.string (txt d)) = some (.string d) := WideMaps.keyOf_string_mk Try.underlying9 (by rw [txt_size]; exact h)
theorem i64_wf {x : Int} (h : -9223372036854775808 ≤ x ∧ x ≤ 9223372036854775807) : (Lit.int .i64 x).wf = true := by
  have h1 : IntKind.i64.min = -9223372036854775808 := rfl
  have h2 : IntKind.i64.max = 9223372036854775807 := rfl
  simp [Lit.wf, h1, h2]
  omega
theorem no_key (x : Int) (h : -9223372036854775808 ≤ x ∧ x ≤ 9223372036854775807) : keyOf Try.prog 3 (.int .i64 x) = some (.int .i64 x) := keyOf_int_mk Try.underlying3 (i64_wf h)
/-- nothing past block m turned -/
def Past (m : Nat) (w w' : World) : Prop := ∀ k, m < k → k < w.heap.size → w'.heap[k]? = w.heap[k]?
theorem Past.refl (m : Nat) (w : World) : Past m w w := fun _ _ _ => rfl
theorem Past.trans {m : Nat} {a b c : World} (h1 : Past m a b) (hs : a.heap.size ≤ b.heap.size) (h2 : Past m b c) : Past m a c := fun k h hk => (h2 k h (Nat.lt_of_lt_of_le hk hs)).trans (h1 k h hk)
theorem Past.of_below {m : Nat} {w w' : World} (h : Below w.heap.size w w') : Past m w w' := fun k _ hk => h.block k hk
theorem Past.of_grown {m b : Nat} {w w' : World} (h : w.grownBy w' (some b)) (hb : b ≤ m) : Past m w w' := fun k hk hs => h.block k hs (fun e => by injection e with e; omega)
theorem LRow.past {W W' : World} {m B : Nat} {l : List Value} (h : LRow W B l) (hp : Past m W W') (hm : m < B) : LRow W' B l :=
  ⟨fun j v hj => by
    obtain ⟨h1, h2⟩ := h.all j v hj
    have hlt := cell_in h1
    have e := hp B hm hlt
    exact ⟨(World.cell?_of_block (a := ⟨B, j, none⟩) e).trans h1, (World.frozen?_of_block (a := ⟨B, j, none⟩) e).trans h2⟩⟩
end Go.Proofs.Ytcfdajaideidkaa
namespace Go.Proofs.Ytcfdajaideidkaa
open Go.RowKit Go.Maps
set_option linter.all false
set_option maxRecDepth 100000
set_option maxRecDepth 100000

set_option maxHeartbeats 1000000 in
theorem jmoment_any (n : Int) (w : World) : Calls Try.prog 58 #[.int .i64 n] w fun e w' => e = .returned (.bool (momB n)) ∧ w' = w := by
  cases h : momB n
  · have K : Hid _ := fun w => add_no n 0 h w
    clear h
    go_enter Try.func58, Try.ntmps58
    go_wp2_with (go_at_call 51; refine (K.out _).mono ?_; rintro e w' ⟨rfl, rfl⟩)
    go_ret
    exact ⟨rfl, rfl⟩
  · have K : Hid _ := fun w => add_yes n 0 h (by decide) w
    clear h
    go_enter Try.func58, Try.ntmps58
    go_wp2_with (go_at_call 51; refine (K.out _).mono ?_; rintro e w' ⟨rfl, rfl⟩)
    go_ret
    exact ⟨rfl, rfl⟩
set_option maxHeartbeats 1000000 in
theorem jwithin_any (n a b : Int) (w : World) : Calls Try.prog 37 #[.int .i64 n, .int .i64 a, .int .i64 b] w fun e w' => e = .returned (.bool (decide (a ≤ n) && decide (n ≤ b))) ∧ w' = w := by
  by_cases h1 : a ≤ n
  · by_cases h2 : n ≤ b
    · go_enter Try.func37, Try.ntmps37
      go_wp2
      go_ret
      exact ⟨by simp [h1, h2], rfl⟩
    · go_enter Try.func37, Try.ntmps37
      go_wp2
      go_ret
      exact ⟨by simp [h1, h2], rfl⟩
  · go_enter Try.func37, Try.ntmps37
    go_wp2
    go_ret
    exact ⟨by rw [show decide (a ≤ n) = false from by simp; omega]; rfl, rfl⟩
set_option maxHeartbeats 1000000 in
theorem identityOf_any (c : Ck) (w : World) : Calls Try.prog 59 #[.agg (ckC c).toArray] w fun e w' => e = .returned (.agg #[.string (txt c.name), .string (txt c.domain), .string (txt c.path)]) ∧ Below w.heap.size w w' := by
  have HB : Hid (∀ x y, Below w.heap.size w ((w.alloc x).alloc y)) := fun x y => ((Below.refl _ _).alloc (Nat.le_refl _) _).alloc (by simp) _
  simp only [ckC]
  go_enter Try.func59, Try.ntmps59
  go_wp2_with fail
  refine bodyPost_ret (v := .agg #[.string (txt c.name), .string (txt c.domain), .string (txt c.path)]) (by simp [results, Try.results59, go_sem]) rfl ⟨rfl, ?_⟩
  exact HB.out _ _
end Go.Proofs.Ytcfdajaideidkaa
namespace Go.Proofs.Ytcfdajaideidkaa
open Go.RowKit
set_option linter.all false
set_option maxRecDepth 100000

theorem snoc_ind {α : Type} {P : List α → Prop} (h0 : P []) (h1 : ∀ l c, P l → P (l ++ [c])) (l : List α) : P l := by
  have h : ∀ m : List α, P m.reverse := fun m => by
    induction m with
    | nil => exact h0
    | cons a m ih => rw [List.reverse_cons]; exact h1 _ _ ih
  have := h l.reverse
  rwa [List.reverse_reverse] at this
theorem fm_congr {α β : Type} {f g : α → Option β} : ∀ {l : List α}, (∀ c ∈ l, f c = g c) → l.filterMap f = l.filterMap g
  | [], _ => rfl
  | a :: l, h => by
    have h2 : l.filterMap f = l.filterMap g := fm_congr (fun c hc => h c (by simp [hc]))
    simp only [List.filterMap_cons, h a (by simp), h2]
/-! jars by their cookies alone -/
theorem chKs_snoc (nx : Int) (l : List Ck) (c : Ck) : chKs nx [] (l ++ [c]) = 0 ↔ chKs nx [] l = 0 ∧ chK nx l c = 0 := by
  rw [chKs_iff, chKs_iff]
  constructor
  · intro h
    refine ⟨fun j x hx => ?_, ?_⟩
    · have hj := (List.getElem?_eq_some_iff.1 hx).1
      have := h j x (by rw [List.getElem?_append_left hj]; exact hx)
      rwa [List.take_append_of_le_length (Nat.le_of_lt hj)] at this
    · have := h l.length c (by simp)
      simpa using this
  · rintro ⟨h1, h2⟩ j x hx
    by_cases hj : j < l.length
    · rw [List.getElem?_append_left hj] at hx
      rw [List.take_append_of_le_length (Nat.le_of_lt hj)]
      exact h1 j x hx
    · have h3 := (List.getElem?_eq_some_iff.1 hx).1
      rw [List.length_append, List.length_singleton] at h3
      obtain rfl : j = l.length := by omega
      simp at hx
      subst hx
      simpa using h2
/-- each cookie is right by itself, no two are the same or have one number, no domain has too many -/
structure JarW (nx : Int) (l : List Ck) : Prop where
  each : ∀ c ∈ l, (momB c.created = true ∧ momB c.used = true) ∧ (0 ≤ c.no ∧ c.no < nx)
  apart : l.Pairwise (fun a b => sameK a b = false ∧ a.no ≠ b.no)
  per : ∀ d, perD l d ≤ 4
theorem twiceB_false (l : List Ck) (c : Ck) : twiceB l c = false ↔ ∀ x ∈ l, sameK x c = false ∧ x.no ≠ c.no := by
  unfold twiceB
  rw [Bool.or_eq_false_iff, List.any_eq_false, List.any_eq_false]
  constructor
  · rintro ⟨h1, h2⟩ x hx
    exact ⟨by simpa using h1 x hx, by simpa using h2 x hx⟩
  · intro h
    exact ⟨fun x hx => by simpa using (h x hx).1, fun x hx => by simpa using (h x hx).2⟩
theorem chKs_char (nx : Int) (l : List Ck) : chKs nx [] l = 0 ↔ JarW nx l := by
  refine snoc_ind (P := fun l => chKs nx [] l = 0 ↔ JarW nx l) ?_ ?_ l
  · exact ⟨fun _ => ⟨fun c h => absurd h (by simp), List.Pairwise.nil, fun d => by simp [perD]⟩, fun _ => rfl⟩
  · intro l c ih
    rw [chKs_snoc, ih, chK_zero, twiceB_false]
    constructor
    · rintro ⟨⟨h1, h2, h3⟩, g1, g2, g3, g4⟩
      refine ⟨fun x hx => ?_, ?_, fun d => ?_⟩
      · rcases List.mem_append.1 hx with hx | hx
        · exact h1 x hx
        · simp at hx; subst hx; exact ⟨g1, g2⟩
      · rw [List.pairwise_append]
        exact ⟨h2, List.pairwise_singleton _ _, fun a ha b hb => by simp at hb; subst hb; exact g3 a ha⟩
      · rw [perD_snoc]
        by_cases e : c.domain = d
        · rw [if_pos e, ← e]; exact g4
        · rw [if_neg e]; exact h3 d
    · rintro ⟨h1, h2, h3⟩
      rw [List.pairwise_append] at h2
      refine ⟨⟨fun x hx => h1 x (List.mem_append_left _ hx), h2.1, fun d => ?_⟩, (h1 c (by simp)).1, (h1 c (by simp)).2, fun x hx => h2.2.2 x hx c (by simp), ?_⟩
      · have := h3 d; rw [perD_snoc] at this; omega
      · have := h3 c.domain; rw [perD_snoc, if_pos rfl] at this; omega
theorem chJ_char (j : Ja) : chJ j = 0 ↔ j.cks.length ≤ 12 ∧ JarW j.next j.cks ∧ (0 ≤ j.next ∧ j.next ≤ 1099511627776) := by
  unfold chJ
  by_cases h1 : 12 < j.cks.length
  · rw [if_pos h1]; exact ⟨fun h => absurd h (by decide), fun h => by omega⟩
  · rw [if_neg h1]
    by_cases h2 : chKs j.next [] j.cks = 0
    · rw [if_pos h2]
      by_cases h3 : j.next < 0 ∨ 1099511627776 < j.next
      · rw [if_pos h3]; exact ⟨fun h => absurd h (by decide), fun h => by omega⟩
      · rw [if_neg h3]; exact ⟨fun _ => ⟨by omega, (chKs_char _ _).1 h2, by omega⟩, fun _ => rfl⟩
    · rw [if_neg h2]; exact ⟨fun h => absurd h h2, fun h => absurd ((chKs_char _ _).2 h.2.1) h2⟩
/-- cookies that keep their key, their moments and their number -/
structure LikeK (a b : Ck) : Prop where
  name : a.name = b.name
  domain : a.domain = b.domain
  path : a.path = b.path
  created : a.created = b.created
  used : a.used = b.used
  no : a.no = b.no
theorem LikeK.same {a b x y : Ck} (h : LikeK a b) (g : LikeK x y) : sameK a x = sameK b y := by unfold sameK; rw [h.name, h.domain, h.path, g.name, g.domain, g.path]
theorem jarW_filterMap (nx : Int) (l : List Ck) (f : Ck → Option Ck) (hf : ∀ c d, f c = some d → LikeK d c) (h : JarW nx l) : JarW nx (l.filterMap f) := by
  refine ⟨fun d hd => ?_, ?_, fun d => ?_⟩
  · obtain ⟨c, hc, hcd⟩ := List.mem_filterMap.1 hd
    have k := hf c d hcd
    rw [k.created, k.used, k.no]; exact h.each c hc
  · rw [List.pairwise_filterMap]
    refine h.apart.imp_of_mem ?_
    intro a b ha hb hab x hx y hy
    have k1 := hf a x hx
    have k2 := hf b y hy
    rw [k1.same k2, k1.no, k2.no]; exact hab
  · have : perD (l.filterMap f) d ≤ perD l d := by
      clear h
      induction l with
      | nil => exact Nat.le_refl _
      | cons c l ih =>
        have hp : ∀ (a : Ck) (m : List Ck), perD (a :: m) d = (if a.domain = d then 1 else 0) + perD m d := fun a m => by
          unfold perD
          by_cases e : a.domain = d
          · rw [if_pos e, List.filter_cons_of_pos (by rw [e]; simp), List.length_cons]; omega
          · rw [if_neg e, List.filter_cons_of_neg (by simpa using e)]; omega
        cases hc : f c with
        | none => rw [List.filterMap_cons_none hc, hp]; omega
        | some x =>
          rw [List.filterMap_cons_some hc, hp, hp, (hf c x hc).domain]; omega
    exact Nat.le_trans this (h.per d)
theorem chJ_filterMap (j : Ja) (f : Ck → Option Ck) (hf : ∀ c d, f c = some d → LikeK d c) (h : chJ j = 0) : chJ ⟨j.cks.filterMap f, j.next⟩ = 0 := by
  rw [chJ_char] at h ⊢
  exact ⟨Nat.le_trans (List.length_filterMap_le _ _) h.1, jarW_filterMap _ _ _ hf h.2.1, h.2.2⟩

end Go.Proofs.Ytcfdajaideidkaa
