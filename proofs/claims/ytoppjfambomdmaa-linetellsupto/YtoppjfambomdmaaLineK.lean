/- The reference's SortOf: each one at its rank. -/
import Derived.Test.YtoppjfambomdmaaLineJ
import Derived.Test.YtoppjfambomdmaaKit5
namespace Go.Proofs.Ytoppjfambomdmaa
open Go.RowKit
set_option linter.all false
set_option maxRecDepth 100000

theorem wpList_append_reads {P : Program} {w : World} {ops : Array Oper} {rest : List Oper} {o : Oper} {a : Act} {Q : Exit → Act → World → Prop} (hgd : o.guard = none) (s x : Operand) (t : TypeId)
    (ho : o.op = .call { callee := .builtin .append, args := #[s, x], argTypes := #[t, t] })
    (base : Nat) (e : TypeId) (i : TypeInfo) (z : Value) (size bytes : Nat) (ht : P.underlying t = some (.slice e)) (hi : P.info? e = some i) (hz : i.zero = some z)
    (hsize : i.size = size) (hby : i.bytes = bytes) (hzs : z.cells.size = size) (hsz : 0 < size)
    (v : Value) (n : Nat) (xs : List Value) (hs : a.eval s = v) (hown : w.ownsRow base e size v n xs) (vx : Value) (hx : a.eval x = vx) (m : Nat) (news : List Value)
    (hrd : Reads w vx m news) (hl : news.length = m * size) (h1 : ∀ u ∈ news, u.oneCell' = true)
    (h63 : n + m ≤ maxLen) (hbytes : (n + m) * bytes ≤ 140737488355328) (hbase : base ≤ w.heap.size)
    (h : ∀ v' w', w'.ownsRow base e size v' (n + m) (xs ++ news) → w.grownBy w' v.ownBlock → (v' = .slice none 0 0 → v = .slice none 0 0) → wpList P ops Q rest (a.put o.dst v') w') :
    wpList P ops Q (o :: rest) a w := by
  obtain ⟨ad, c, rfl, hr⟩ := hrd
  cases ad with
  | none =>
    have hnil : news = [] := by
      rcases hr with hr | ⟨b, off, e, _⟩
      · exact hr
      · cases e
    subst hnil
    have hm : m = 0 := by
      rcases Nat.eq_zero_or_pos m with h | h
      · exact h
      · have := Nat.mul_pos h hsz; simp at hl; omega
    subst hm
    have hrun := run_append_none' (P := P) (w := w) base t o.type e i size c ht hi v n xs hown
    refine wpList_plain hgd fun K hK => ?_
    unfold Oper.wp execOp
    simp only [ho, resolve, invoke, builtin, Sem.run_bind, Sem.run_pure, Result.andThen_ok, List.map_toArray, List.map_cons, List.map_nil, hs, hx, hrun]
    exact hK _ _ (h v w (by simpa using hown) ⟨rfl, rfl, rfl, Nat.le_refl _, fun _ _ _ => rfl⟩ id)
  | some ad =>
    refine wpList_append_own w hgd s x t ho base e i z size bytes ht hi hz hsize hby hzs hsz v n xs hs hown ad m c news hx hl ?_ h1 h63 hbytes hbase (fun v' w' h2 h3 h4 => h v' w' h2 h3 (fun e => (h4.1 e).1))
    intro j u hj
    rcases hr with hr | ⟨b, off, e, hr⟩
    · subst hr; cases hj
    · injection e with e
      subst e
      rw [add_none5]
      exact hr j u hj
theorem place_of {l : List Ck} {t : List (Ck × Nat)} (hp : t.Perm l.zipIdx) (ht : t.Pairwise (fun x y => tagL ltC x y = true)) (i : Nat) (x : Ck) (hx : l[i]? = some x) :
    rk l.zipIdx (x, i) < l.length ∧ t[rk l.zipIdx (x, i)]? = some (x, i) := by
  have hm : (x, i) ∈ t := hp.symm.subset (by
    refine List.mem_of_getElem? (i := i) ?_
    rw [List.getElem?_zipIdx, hx]; simp)
  obtain ⟨p, h⟩ := List.getElem?_of_mem hm
  have e := rk_at t ht p _ h
  rw [rk_perm hp] at e
  have hlt := (List.getElem?_eq_some_iff.1 h).1
  rw [hp.length_eq, List.length_zipIdx] at hlt
  rw [e]
  exact ⟨hlt, h⟩
theorem place_one {l : List Ck} {t : List (Ck × Nat)} (hp : t.Perm l.zipIdx) (ht : t.Pairwise (fun x y => tagL ltC x y = true)) (i p : Nat) (x c : Ck) (hx : l[i]? = some x) (h : t[p]? = some (c, i)) : c = x ∧ p = rk l.zipIdx (x, i) := by
  have h1 := zip_tag l (c, i) (hp.subset (List.mem_of_getElem? h))
  have h1 : l[i]? = some c := h1
  rw [hx] at h1
  injection h1 with h1
  subst h1
  have e := rk_at t ht p _ h
  rw [rk_perm hp] at e
  exact ⟨rfl, e.symm⟩
theorem ck13 {u : Value} {r : List Ck} (hu : u ∈ r.flatMap ckC) : u.oneCell' = true := by
  obtain ⟨c, _, h⟩ := List.mem_flatMap.1 hu
  simp only [ckC, List.mem_cons, List.not_mem_nil, or_false] at h
  rcases h with rfl | rfl | rfl | rfl | rfl | rfl | rfl | rfl | rfl | rfl | rfl | rfl | rfl <;> rfl
theorem ck_here {l : List Ck} {k : Nat} (h : k < l.length) : ∃ c, l[k]? = some c := ⟨_, List.getElem?_eq_getElem h⟩
set_option maxHeartbeats 8000000 in
theorem sortOf_any (v0 : Value) (l s : List Ck) (w : World) (hr : Rows w v0 ckC l) (hs : IsSort l s) (hn : l.length ≤ 1048576) :
    Calls Try.prog 12 #[v0] w fun e w' => ∃ v', e = .returned v' ∧ Rows w' v' ckC s ∧ Below w.heap.size w w' := by
  obtain ⟨ad, cap, hv0⟩ := hr.shape
  subst hv0
  obtain ⟨t, hst, hp, hle⟩ := hs
  have ht := tagged_strict hp hle
  have HP : Hid _ := hp
  have HT : Hid _ := ht
  have HST : Hid _ := hst
  have HR : Hid _ := hr
  have HTL : Hid (t.length = l.length) := by show _ = _; rw [hp.length_eq, List.length_zipIdx]
  have HRD : Hid (Reads (w.alloc (.cells #[] 34)) (.slice ad l.length cap) l.length (l.flatMap ckC)) := Rows.below hr ((Below.refl _ w).alloc (Nat.le_refl _) _) (Nat.le_refl _)
  have HL : Hid ((l.flatMap ckC).length = l.length * 13) := flat_len ckC 13 (fun _ => rfl) l
  have M1 : Hid (0 + l.length ≤ maxLen) := by show _ ≤ _; unfold maxLen; omega
  have M2 : Hid ((0 + l.length) * 112 ≤ 140737488355328) := by show _ ≤ _; omega
  obtain ⟨i0, hi, hz0, hz1, hz2⟩ := info_parts' info_ck
  clear hr hp ht hst hle
  go_enter Try.func12, Try.ntmps12
  go_wp2_with (at_builtin; refine wpList_append_reads rfl _ _ 22 rfl w.heap.size 34 i0 _ 13 112 Try.underlying22 hi hz0 hz1 hz2 rfl (by decide) _ _ _ rfl (World.ownsRow_lit w #[] 0 (Nat.le_refl _) (Nat.zero_le _) rfl) _ rfl l.length _ HRD.out HL.out (fun u hu => ck13 hu) M1.out M2.out ?qc1 ?_)
  case qc1 => simp
  intro v1 w1 hown hgrow hnn
  have HB1 : Hid (Below w.heap.size w w1) := ((Below.refl _ w).alloc (Nat.le_refl _) _).grown hgrow (by simp) (by intro k hk; simp [Value.ownBlock] at hk; omega)
  obtain ⟨g, cp, rfl, hgl, hbg⟩ : ∃ g cp, v1 = .slice (some ⟨g, 0, none⟩) l.length cp ∧ g < w1.heap.size ∧ w.heap.size ≤ g := by
    rcases hown.2 with ⟨h, _⟩ | ⟨g, cp, cur, h, hge, hh, _⟩
    · exact absurd (hnn h) (by simp)
    · refine ⟨g, cp, by rw [h], ?_, hge⟩
      exact (Array.getElem?_eq_some_iff.1 hh).1
  have HROW : Hid (LRow w1 g (l.flatMap ckC)) := ⟨fun j v hj => ⟨(hown.cellAt j (by have := (List.getElem?_eq_some_iff.1 hj).1; rw [HL.out] at this; exact this)).trans hj, hown.frozenAt j⟩⟩
  have HGL : Hid _ := hgl
  have HBG : Hid _ := hbg
  clear hown hgrow hnn hgl hbg HRD hz0 hz1 hz2 hi
  clear i0
  go_wp2_with fail
  go_loopw [4, 5, 6] (fun iv _ _ wr => ∃ (i : Nat) (o : List Ck), i ≤ l.length ∧ iv = .int .i64 (i : Int) ∧ Hid (LRow wr g (o.flatMap ckC)) ∧ Hid (o.length = l.length) ∧ Hid (∀ (p : Nat) (c : Ck) (j : Nat), t[p]? = some (c, j) → j < i → o[p]? = some c) ∧ Hid (g < wr.heap.size) ∧ Hid (Below w.heap.size w wr)) (fun iv _ _ _ => l.length - (intOf iv).toNat)
  case atStart => exact ⟨0, l, Nat.zero_le _, rfl, HROW, rfl, fun p c j _ h => absurd h (by omega), HGL, HB1⟩
  case round =>
    obtain ⟨i, o, hil, rfl, HO, HOL, HIN, HG, HB⟩ := hrel
    by_cases hlt : i < l.length
    · obtain ⟨x, hx⟩ := ck_here hlt
      have HX : Hid _ := hx
      clear hx
      go_wp2_with fail
      obtain ⟨W0, hW0⟩ : ∃ W, W = wr := ⟨_, rfl⟩
      rw [← hW0] at HO HG HB
      have HB0 : Hid (Below W0.heap.size W0 wr) := by rw [hW0]; exact Below.refl _ _
      have HQ0 : Hid ((0 : Int) = (rk (l.zipIdx.take 0) (x, i) : Nat)) := by show _ = _; simp [rk]
      clear hW0
      go_loopw [5, 6] (fun av kv wr => ∃ q : Nat, q ≤ l.length ∧ kv = .int .i64 (q : Int) ∧ av = .int .i64 ((rk (l.zipIdx.take q) (x, i) : Nat) : Int) ∧ Hid (Below W0.heap.size W0 wr)) (fun _ kv _ => l.length - (intOf kv).toNat)
      case atStart => exact ⟨0, Nat.zero_le _, rfl, by rw [← HQ0.out], HB0⟩
      case round =>
        obtain ⟨q, hq, rfl, rfl, HBI⟩ := hrel
        obtain ⟨r, hrr⟩ : ∃ r, r = rk (l.zipIdx.take q) (x, i) := ⟨_, rfl⟩
        rw [← hrr]
        have hrb : r ≤ 1048576 := by rw [hrr]; have := rk_le (l.zipIdx.take q) (x, i); rw [List.length_take] at this; omega
        obtain ⟨W, hW⟩ : ∃ W, W = wr := ⟨_, rfl⟩
        rw [← hW] at HBI ⊢
        clear hW
        have HRL : Hid (Rows W (.slice ad l.length cap) ckC l) := Rows.below (Rows.below HR.out HB.out (Nat.le_refl _)) HBI.out (Nat.le_refl _)
        by_cases hlq : q < l.length
        · obtain ⟨y, hy⟩ := ck_here hlq
          have hq1 : (q : Int) < (l.length : Int) := by omega
          have hi1 : (i : Int) < (l.length : Int) := by omega
          have hq2 : (q : Int) ≤ (l.length : Int) := by omega
          have hi2 : (i : Int) ≤ (l.length : Int) := by omega
          have hq3 : (0 : Int) ≤ (q : Int) := by omega
          have hi3 : (0 : Int) ≤ (i : Int) := by omega
          obtain ⟨bl, ol, rfl, hbl, hcx⟩ := Rows.at HRL.out rfl 12 (fun _ => rfl) i x HX.out
          obtain ⟨bl', ol', hbe, _, hcy⟩ := Rows.at HRL.out rfl 12 (fun _ => rfl) q y hy
          injection hbe with hbe
          injection hbe with e3 e4
          subst e3 e4
          have hcx2 : ∀ j u, (ckC x)[j]? = some u → ∀ w', Below W.heap.size W w' → w'.cell? ⟨bl, ol + i * (12 + 1) + j, none⟩ = some u := fun j u hu w' hw' => (hw'.cell (p := ⟨bl, ol + i * (12 + 1) + j, none⟩) hbl).trans (hcx j u hu)
          have hcy2 : ∀ j u, (ckC y)[j]? = some u → ∀ w', Below W.heap.size W w' → w'.cell? ⟨bl, ol + q * (12 + 1) + j, none⟩ = some u := fun j u hu w' hw' => (hw'.cell (p := ⟨bl, ol + q * (12 + 1) + j, none⟩) hbl).trans (hcy j u hu)
          have p0 := hcx2 0 _ rfl
          have p1 := hcx2 1 _ rfl
          have p2 := hcx2 2 _ rfl
          have p3 := hcx2 3 _ rfl
          have p4 := hcx2 4 _ rfl
          have p5 := hcx2 5 _ rfl
          have p6 := hcx2 6 _ rfl
          have p7 := hcx2 7 _ rfl
          have p8 := hcx2 8 _ rfl
          have p9 := hcx2 9 _ rfl
          have p10 := hcx2 10 _ rfl
          have p11 := hcx2 11 _ rfl
          have p12 := hcx2 12 _ rfl
          have y0 := hcy2 0 _ rfl
          have y1 := hcy2 1 _ rfl
          have y2 := hcy2 2 _ rfl
          have y3 := hcy2 3 _ rfl
          have y4 := hcy2 4 _ rfl
          have y5 := hcy2 5 _ rfl
          have y6 := hcy2 6 _ rfl
          have y7 := hcy2 7 _ rfl
          have y8 := hcy2 8 _ rfl
          have y9 := hcy2 9 _ rfl
          have y10 := hcy2 10 _ rfl
          have y11 := hcy2 11 _ rfl
          have y12 := hcy2 12 _ rfl
          simp only [Nat.reduceAdd, Nat.add_zero] at p0 p1 p2 p3 p4 p5 p6 p7 p8 p9 p10 p11 p12 y0 y1 y2 y3 y4 y5 y6 y7 y8 y9 y10 y11 y12
          have HZ : l.zipIdx[q]? = some (y, q) := by rw [List.getElem?_zipIdx, hy]; simp
          have HRK : Hid (rk (l.zipIdx.take (q + 1)) (x, i) = r + if tagL ltC (y, q) (x, i) then 1 else 0) := by show _ = _; rw [rk_snoc _ q _ _ HZ, ← hrr]
          clear hcx hcy hcx2 hcy2 HZ hrr hbl
          by_cases hqi : q = i
          · have g1 : ((q : Int) != (i : Int)) = false := by rw [hqi]; simp
            have g1' : ((q : Int) == (i : Int)) = true := by rw [hqi]; simp
            have HSAME : Hid (rk (l.zipIdx.take (q + 1)) (x, i) = r) := by
              show _ = _
              have e : y = x := by
                have := HX.out
                rw [← hqi, hy] at this
                exact Option.some.inj this
              rw [HRK.out, hqi, e, tag_self]; simp
            clear hqi hy HRK
            go_wp2_with fail
            go_quiet (fail)
            go_wp2_with fail
            go_roundw
            case rel => exact ⟨q + 1, by omega, by go_num, by rw [HSAME.out], by first | exact HBI.out.drew | exact HBI.out.trans (below_drewN' _ _ _) | exact HBI.out⟩
            case measure => simp [intOf]; omega
          · have g1 : ((q : Int) != (i : Int)) = true := by rw [bne_iff_ne]; omega
            have g1' : ((q : Int) == (i : Int)) = false := by rw [beq_eq_false_iff_ne]; omega
            have g2 : ¬ (q : Int) = (i : Int) := by omega
            have HQ : Hid (q ≤ 1048576 ∧ i ≤ 1048576) := ⟨by omega, by omega⟩
            obtain ⟨ee, hee⟩ : ∃ ee, ee = tagL ltC (y, q) (x, i) := ⟨_, rfl⟩
            rw [← hee] at HRK
            have HEE : Hid (tagL ltC (y, q) (x, i) = ee) := hee.symm
            clear hqi hy hee
            cases ee
            all_goals
              go_wp2_with fail
              go_region_held3 (fun w' => Below W.heap.size W w') (first | assumption | exact (Below.refl _ _).drew | exact Below.refl _ _ | fail)
                (first
                | (go_at_call 26; refine (ahead_any y x q i _ HQ.out.1 HQ.out.2).mono ?_; rw [HEE.out]; rintro e w3 ⟨rfl, hb3⟩; have hB3 : Below W.heap.size W w3 := (Below.refl _ W).drew.trans (hb3.mono (by simp)))
                | fail)
            all_goals
              go_wp2_with fail
              go_roundw
              case rel => exact ⟨q + 1, by omega, by go_num, by rw [HRK.out]; simp, HBI.out.trans (hB3.mono HBI.out.size)⟩
              case measure => simp [intOf]; omega
        · have hql : q = l.length := by omega
          obtain ⟨hpl, hpt⟩ := place_of HP.out HT.out i x HX.out
          rw [hql, List.take_of_length_le (by rw [List.length_zipIdx]; exact Nat.le_refl _)] at hrr
          rw [← hrr] at hpl hpt
          obtain ⟨bl, ol, rfl, hbl, hcx⟩ := Rows.at HRL.out rfl 12 (fun _ => rfl) i x HX.out
          have p0 := hcx 0 _ rfl
          have p1 := hcx 1 _ rfl
          have p2 := hcx 2 _ rfl
          have p3 := hcx 3 _ rfl
          have p4 := hcx 4 _ rfl
          have p5 := hcx 5 _ rfl
          have p6 := hcx 6 _ rfl
          have p7 := hcx 7 _ rfl
          have p8 := hcx 8 _ rfl
          have p9 := hcx 9 _ rfl
          have p10 := hcx 10 _ rfl
          have p11 := hcx 11 _ rfl
          have p12 := hcx 12 _ rfl
          have LO : LRow W g (o.flatMap ckC) := HO.out.below HBI.out HG.out
          have hpo : r < o.length := by rw [HOL.out]; exact hpl
          obtain ⟨z, hz⟩ := ck_here hpo
          have hgz : ∀ j u, (ckC z)[j]? = some u → (o.flatMap ckC)[r * 13 + j]? = some u := fun j u hu => by
            rw [flat_get ckC 13 (fun _ => rfl) o r j z hz (by have := (List.getElem?_eq_some_iff.1 hu).1; exact this)]; exact hu
          have f0 := LO.frozen (r * 13 + 0) (hgz 0 _ rfl)
          have z0 := LO.cell (r * 13 + 0) (hgz 0 _ rfl)
          have f1 := LO.frozen (r * 13 + 1) (hgz 1 _ rfl)
          have z1 := LO.cell (r * 13 + 1) (hgz 1 _ rfl)
          have f2 := LO.frozen (r * 13 + 2) (hgz 2 _ rfl)
          have z2 := LO.cell (r * 13 + 2) (hgz 2 _ rfl)
          have f3 := LO.frozen (r * 13 + 3) (hgz 3 _ rfl)
          have z3 := LO.cell (r * 13 + 3) (hgz 3 _ rfl)
          have f4 := LO.frozen (r * 13 + 4) (hgz 4 _ rfl)
          have z4 := LO.cell (r * 13 + 4) (hgz 4 _ rfl)
          have f5 := LO.frozen (r * 13 + 5) (hgz 5 _ rfl)
          have z5 := LO.cell (r * 13 + 5) (hgz 5 _ rfl)
          have f6 := LO.frozen (r * 13 + 6) (hgz 6 _ rfl)
          have z6 := LO.cell (r * 13 + 6) (hgz 6 _ rfl)
          have f7 := LO.frozen (r * 13 + 7) (hgz 7 _ rfl)
          have z7 := LO.cell (r * 13 + 7) (hgz 7 _ rfl)
          have f8 := LO.frozen (r * 13 + 8) (hgz 8 _ rfl)
          have z8 := LO.cell (r * 13 + 8) (hgz 8 _ rfl)
          have f9 := LO.frozen (r * 13 + 9) (hgz 9 _ rfl)
          have z9 := LO.cell (r * 13 + 9) (hgz 9 _ rfl)
          have f10 := LO.frozen (r * 13 + 10) (hgz 10 _ rfl)
          have z10 := LO.cell (r * 13 + 10) (hgz 10 _ rfl)
          have f11 := LO.frozen (r * 13 + 11) (hgz 11 _ rfl)
          have z11 := LO.cell (r * 13 + 11) (hgz 11 _ rfl)
          have f12 := LO.frozen (r * 13 + 12) (hgz 12 _ rfl)
          have z12 := LO.cell (r * 13 + 12) (hgz 12 _ rfl)
          simp only [Nat.reduceAdd, Nat.add_zero] at p0 p1 p2 p3 p4 p5 p6 p7 p8 p9 p10 p11 p12 f0 f1 f2 f3 f4 f5 f6 f7 f8 f9 f10 f11 f12 z0 z1 z2 z3 z4 z5 z6 z7 z8 z9 z10 z11 z12
          have hil' : (i : Int) < (l.length : Int) := by omega
          have hrl' : (r : Int) < (l.length : Int) := by omega
          have HLO : Hid _ := LO
          have HPT : Hid _ := hpt
          have HPO : Hid _ := hpo
          have HRR : Hid _ := hrr
          clear hcx hgz LO hpt hpo hrr hz hbl
          go_wp2_with fail
          obtain ⟨W3, hW3⟩ : ∃ W3, W3 = (((((((((((((W.setCell ⟨g, r * 13, none⟩ (.string (txt x.name))).setCell ⟨g, r * 13 + 1, none⟩ (.string (txt x.value))).setCell ⟨g, r * 13 + 2, none⟩ (.string (txt x.domain))).setCell ⟨g, r * 13 + 3, none⟩ (.string (txt x.path))).setCell ⟨g, r * 13 + 4, none⟩ (.bool x.hostOnly)).setCell ⟨g, r * 13 + 5, none⟩ (.bool x.secure)).setCell ⟨g, r * 13 + 6, none⟩ (.bool x.httpOnly)).setCell ⟨g, r * 13 + 7, none⟩ (.bool x.lasting)).setCell ⟨g, r * 13 + 8, none⟩ (.int .i64 x.site)).setCell ⟨g, r * 13 + 9, none⟩ (.int .i64 x.expiry)).setCell ⟨g, r * 13 + 10, none⟩ (.int .i64 x.created)).setCell ⟨g, r * 13 + 11, none⟩ (.int .i64 x.used)).setCell ⟨g, r * 13 + 12, none⟩ (.int .i64 x.no)) := ⟨_, rfl⟩
          rw [← hW3]
          have L3 : Hid (LRow W3 g ((o.set r x).flatMap ckC)) := by
            show LRow _ _ _
            rw [hW3, ← flat_turn o r x HPO.out]
            exact ((((((((((((HLO.out.set _ _).set _ _).set _ _).set _ _).set _ _).set _ _).set _ _).set _ _).set _ _).set _ _).set _ _).set _ _).set _ _
          have B3 : Hid (Below w.heap.size w W3) := by
            show Below _ _ _
            rw [hW3]
            have b0 : Below w.heap.size w W := HB.out.trans (HBI.out.mono HB.out.size)
            have hg : w.heap.size ≤ g := HBG.out
            exact ((((((((((((b0.setCell hg _).setCell hg _).setCell hg _).setCell hg _).setCell hg _).setCell hg _).setCell hg _).setCell hg _).setCell hg _).setCell hg _).setCell hg _).setCell hg _).setCell hg _
          have hlen : (o.set r x).length = l.length := by rw [List.length_set]; exact HOL.out
          have hin : ∀ (p : Nat) (c : Ck) (j : Nat), t[p]? = some (c, j) → j < i + 1 → (o.set r x)[p]? = some c := fun p c j hp hj => by
            by_cases e : j = i
            · subst e
              obtain ⟨e1, e2⟩ := place_one HP.out HT.out j p x c HX.out hp
              rw [e1, e2, ← HRR.out, List.getElem?_set_self HPO.out]
            · rw [List.getElem?_set_ne, HIN.out p c j hp (by omega)]
              intro e2
              rw [← e2, HPT.out] at hp
              injection hp with hp
              injection hp with _ hp
              exact e hp.symm
          have G3 : Hid (g < W3.heap.size) := cell_in (L3.out.cell (r * 13) (v := .string (txt x.name)) (by
            have := flat_get ckC 13 (fun _ => rfl) (o.set r x) r 0 x (List.getElem?_set_self HPO.out) (by decide)
            rw [Nat.add_zero] at this
            rw [this]; rfl))
          have HLEN : Hid _ := hlen
          have HIN3 : Hid _ := hin
          clear hW3 hlen hin
          go_roundw
          case rel => exact ⟨i + 1, o.set r x, by omega, by go_num, L3, HLEN, HIN3, G3, B3⟩
          case measure => simp [intOf]; omega
    · have hil2 : i = l.length := by omega
      have HE : Hid (o = s) := by
        show _ = _
        rw [HST.out]
        refine List.ext_getElem? fun p => ?_
        by_cases hp : p < t.length
        · obtain ⟨⟨c, j⟩, hc⟩ : ∃ c, t[p]? = some c := ⟨_, List.getElem?_eq_getElem hp⟩
          have hj := zip_tag l (c, j) (HP.out.subset (List.mem_of_getElem? hc))
          have hj : l[j]? = some c := hj
          rw [HIN.out p c j hc (by rw [hil2]; exact (List.getElem?_eq_some_iff.1 hj).1), List.getElem?_map, hc]; rfl
        · rw [List.getElem?_eq_none (by have := HTL.out; have := HOL.out; omega), List.getElem?_eq_none (by rw [List.length_map]; omega)]
      clear hil2
      go_wp2_with fail
      go_ret
      exact ⟨.slice (some ⟨g, 0, none⟩) l.length cp, rfl, ⟨some ⟨g, 0, none⟩, cp, by rw [← HE.out, HOL.out], .inr ⟨g, 0, rfl, fun j u hj => by rw [Nat.zero_add]; rw [← HE.out] at hj; exact HO.out.cell j hj⟩⟩, HB.out⟩
end Go.Proofs.Ytoppjfambomdmaa
