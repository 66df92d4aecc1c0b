/- The walk of the document's other. -/
import Derived.Test.YtphkchjejbffeaaG24
namespace Go.Proofs.Ytphkchjejbffeaa
open Go.RowKit
attribute [local go_sem ↓] Go.wp_at_zero Go.wp_at_succ

theorem rval_part {w : World} {g o : Nat} {M : List UInt8} (h : Lies w g o M) (j n cap t : Nat) (h1 : j + n ≤ M.length) (h2 : n ≤ 7) (ht : num ((M.drop j).take n) 0 = t) :
    Calls Try.prog 102 #[.slice (some ⟨g, o + j, none⟩) n cap] w fun e w' => e = .returned (.int .i64 t) ∧ w' = w := by
  have hl : ((M.drop j).take n).length = n := by rw [List.length_take, List.length_drop]; omega
  have := rval_any g (o + j) cap ((M.drop j).take n) w (by omega) ((h.drop j).take n)
  rw [hl, ht] at this
  exact this
theorem at_drop (M : List UInt8) (k i n : Nat) : num ((M.drop (k + i)).take n) 0 = at_ (M.drop k) i n := by
  unfold at_
  rw [List.drop_drop]

set_option maxRecDepth 100000 in
set_option maxHeartbeats 4000000 in
theorem rother_any {w : World} {base : Nat} {v : Value} {S : List Ord} (h : RsAt w base v S) (hsm : SmR S) (hb : base ≤ w.heap.size) (hn : S.length ≤ 1000000000) (iop : Option Nat) (hi : ∀ i, iop = some i → i < S.length) (gm om cm : Nat) (M : List UInt8) (hM : Lies w gm om M) (hl : M.length = 19) (hc : 19 ≤ cm) (hcm : cm ≤ 9223372036854775807) (_hgm : gm < base) :
    Calls Try.prog 106 #[v, .int .i64 (ixv iop), .slice (some ⟨gm, om, none⟩) 19 cm] w (RefP (rOther S iop (M.drop 7)) base w) := by
  have hu := at_lt4 (M.drop 7) 4
  have hm := at_lt2 (M.drop 7) 8
  have hp := at_lt2 (M.drop 7) 10
  have HS : Hid (∀ u m p, at_ (M.drop 7) 4 4 = u → at_ (M.drop 7) 8 2 = m → at_ (M.drop 7) 10 2 = p → ∀ i o, iop = some i → S[i]? = some o → rOther S iop (M.drop 7) = (if m = 0 ∨ ((rfind S u).isSome ∧ rfind S u ≠ some i) then none
      else if p = o.price ∧ m ≤ o.shares then some (S.set i { ref := u, token := 0, side := o.side, stock := o.stock, price := p, shares := m }) else some (insO { ref := u, token := 0, side := o.side, stock := o.stock, price := p, shares := m } (S.eraseIdx i)))) := by
    rintro u m p rfl rfl rfl i o rfl ho
    simp only [rOther, ho]
    rfl
  have HS0 : Hid (iop = none → rOther S iop (M.drop 7) = none) := by rintro rfl; rfl
  obtain ⟨u, hue⟩ : ∃ u, at_ (M.drop 7) 4 4 = u := ⟨_, rfl⟩
  obtain ⟨m, hme⟩ : ∃ m, at_ (M.drop 7) 8 2 = m := ⟨_, rfl⟩
  obtain ⟨p, hpe⟩ : ∃ p, at_ (M.drop 7) 10 2 = p := ⟨_, rfl⟩
  have HR := Hid.mk (HS.out u m p hue hme hpe)
  have HV : Hid (Calls Try.prog 102 #[.slice (some ⟨gm, om + 11, none⟩) 4 (cm - 11)] w (fun e w' => e = .returned (.int .i64 u) ∧ w' = w) ∧ Calls Try.prog 102 #[.slice (some ⟨gm, om + 15, none⟩) 2 (cm - 15)] w (fun e w' => e = .returned (.int .i64 m) ∧ w' = w) ∧ Calls Try.prog 102 #[.slice (some ⟨gm, om + 17, none⟩) 2 (cm - 17)] w (fun e w' => e = .returned (.int .i64 p) ∧ w' = w)) :=
    ⟨rval_part hM 11 4 _ u (by omega) (by omega) (by rw [← hue]; exact at_drop M 7 4 4), rval_part hM 15 2 _ m (by omega) (by omega) (by rw [← hme]; exact at_drop M 7 8 2), rval_part hM 17 2 _ p (by omega) (by omega) (by rw [← hpe]; exact at_drop M 7 10 2)⟩
  rw [hue] at hu
  rw [hme] at hm
  rw [hpe] at hp
  generalize rOther S iop (M.drop 7) = res at *
  have HF := Hid.mk (rfnd_any w base v S u h)
  rw [rfi_ixv] at HF
  have i4 : (19 : Int) ≤ (cm : Int) := by omega
  have i5 : (cm : Int) ≤ 9223372036854775807 := by omega
  have HH := Hid.mk (And.intro h hsm)
  have HU := Hid.mk hu
  clear HS hue hme hpe hM hl hc hcm
  obtain ⟨ra, cap, hv, hc1, hc2, hcs⟩ := h.form
  subst hv
  go_enter Try.func106, Try.ntmps106
  go_wp2_with fail
  refine HV.out.1.mono ?_
  rintro e w' ⟨rfl, hw⟩
  replace hw := hw.symm
  subst hw
  go_wp2_with fail
  refine HF.out.mono ?_
  rintro e w' ⟨rfl, hw⟩
  replace hw := hw.symm
  subst hw
  go_wp2_with fail
  refine HV.out.2.1.mono ?_
  rintro e w' ⟨rfl, hw⟩
  replace hw := hw.symm
  subst hw
  go_wp2_with fail
  refine HV.out.2.2.mono ?_
  rintro e w' ⟨rfl, hw⟩
  replace hw := hw.symm
  subst hw
  clear HV HF
  cases iop with
  | none =>
    have hx : ixv none = -1 := rfl
    rw [hx]
    have HE := Hid.mk (HS0.out rfl)
    clear hx HS0 HR hcs
    go_wp2_with fail
    go_ret2
    exact ⟨Below.refl _ _, Or.inl ⟨HE.out, rfl⟩⟩
  | some i =>
    have hil := hi i rfl
    obtain ⟨o, ho⟩ : ∃ o, S[i]? = some o := ⟨_, List.getElem?_eq_getElem hil⟩
    have hR := HR.out i o rfl ho
    obtain ⟨g, rfl, hbg, hgl, hfz, hrg⟩ := hcs i o ho
    have hx : ixv (some i) = (i : Int) := rfl
    rw [hx]
    have hos := hsm o (List.mem_of_getElem? ho)
    have i1 : (0 : Int) ≤ (i : Int) := by omega
    have i2 : (i : Int) < (S.length : Int) := by omega
    have i3 : ¬ (i : Int) < 0 := by omega
    have HO := Hid.mk ho
    obtain ⟨c0, c1, c2, c3, c4, c5⟩ : w.cell? ⟨g, i * 6, none⟩ = some (.int .i64 o.ref) ∧ w.cell? ⟨g, i * 6 + 1, none⟩ = some (.int .i64 o.token) ∧ w.cell? ⟨g, i * 6 + 2, none⟩ = some (.int .u8 o.side.toNat) ∧ w.cell? ⟨g, i * 6 + 3, none⟩ = some (.int .i64 o.stock) ∧ w.cell? ⟨g, i * 6 + 4, none⟩ = some (.int .i64 o.price) ∧ w.cell? ⟨g, i * 6 + 5, none⟩ = some (.int .i64 o.shares) := ⟨hrg 0 _ rfl, hrg 1 _ rfl, hrg 2 _ rfl, hrg 3 _ rfl, hrg 4 _ rfl, hrg 5 _ rfl⟩
    rw [hos.2] at c1
    have HFZ := Hid.mk hfz
    clear hx hcs HS0 HR hi hrg hfz h ho hsm
    by_cases h0 : m = 0
    · have b0 : ((m : Int) == 0) = true := by simp [h0]
      have HE : Hid (res = none) := by rw [hR, if_pos (Or.inl h0)]; rfl
      clear hR h0
      go_wp2_with fail
      go_ret2
      exact ⟨Below.refl _ _, Or.inl ⟨HE.out, rfl⟩⟩
    · have b0 : ((m : Int) == 0) = false := by rw [beq_eq_false_iff_ne]; omega
      by_cases hbad : (rfind S u).isSome = true ∧ rfind S u ≠ some i
      · obtain ⟨k, hk⟩ := Option.isSome_iff_exists.1 hbad.1
        have hki : k ≠ i := fun e => hbad.2 (by rw [hk, e])
        have HE : Hid (res = none) := by rw [hR, if_pos (Or.inr hbad)]; rfl
        have hxk : ixv (rfind S u) = (k : Int) := by rw [hk]; rfl
        rw [hxk]
        have b1 : (0 : Int) ≤ (k : Int) := by omega
        have b2 : ((k : Int) == (i : Int)) = false := by rw [beq_eq_false_iff_ne]; omega
        have b2' : ((k : Int) != (i : Int)) = true := by rw [bne, b2]; rfl
        clear hR h0 hbad hk hki hxk
        go_wp2_with fail
        go_ret2
        exact ⟨Below.refl _ _, Or.inl ⟨HE.out, rfl⟩⟩
      · have hR2 : res = if p = o.price ∧ m ≤ o.shares then some (S.set i { ref := u, token := 0, side := o.side, stock := o.stock, price := p, shares := m }) else some (insO { ref := u, token := 0, side := o.side, stock := o.stock, price := p, shares := m } (S.eraseIdx i)) := by
          rw [hR, if_neg (by rintro (hh | hh); exact h0 hh; exact hbad hh)]
        have hfc : rfind S u = none ∨ rfind S u = some i := by
          cases hf : rfind S u with
          | none => exact .inl rfl
          | some k =>
            right
            by_cases e : k = i
            · rw [e]
            · exact absurd ⟨by rw [hf]; rfl, by rw [hf]; intro e2; exact e (Option.some.inj e2)⟩ hbad
        have HR2 := Hid.mk hR2
        have HYS : Hid (Ord.small { ref := u, token := 0, side := o.side, stock := o.stock, price := p, shares := m }) := ⟨HU.out, by show 0 < 4294967296; omega, hos.1.stock, hp, hm⟩
        clear hR hR2 hbad h0
        rcases hfc with hf | hf
        · have hxk : ixv (rfind S u) = -1 := by rw [hf]; rfl
          rw [hxk]
          clear hxk hf
          by_cases hk : p = o.price ∧ m ≤ o.shares
          · have HE : Hid (res = some (S.set i { ref := u, token := 0, side := o.side, stock := o.stock, price := p, shares := m })) := by
              have := HR2.out
              rw [if_pos hk] at this
              exact this
            have b3 : ((p : Int) == (o.price : Int)) = true := by simp [hk.1]
            have b4 : (m : Int) ≤ (o.shares : Int) := by have := hk.2; omega
            have f0 := HFZ.out (i * 6)
            have f1 := HFZ.out (i * 6 + 1)
            have f2 := HFZ.out (i * 6 + 2)
            have f3 := HFZ.out (i * 6 + 3)
            have f4 := HFZ.out (i * 6 + 4)
            have f5 := HFZ.out (i * 6 + 5)
            have HPA : Hid (RsAt ((((((w.setCell ⟨g, i * 6, none⟩ (.int .i64 u)).setCell ⟨g, i * 6 + 1, none⟩ (.int .i64 0)).setCell ⟨g, i * 6 + 2, none⟩ (.int .u8 o.side.toNat)).setCell ⟨g, i * 6 + 3, none⟩ (.int .i64 o.stock)).setCell ⟨g, i * 6 + 4, none⟩ (.int .i64 p)).setCell ⟨g, i * 6 + 5, none⟩ (.int .i64 m)) base (.slice (some ⟨g, 0, none⟩) S.length cap) (S.set i { ref := u, token := 0, side := o.side, stock := o.stock, price := p, shares := m })) := HH.out.1.putAll i o { ref := u, token := 0, side := o.side, stock := o.stock, price := p, shares := m } HO.out
            have HFR : Hid (Fr (fun k => k = g) w ((((((w.setCell ⟨g, i * 6, none⟩ (.int .i64 u)).setCell ⟨g, i * 6 + 1, none⟩ (.int .i64 0)).setCell ⟨g, i * 6 + 2, none⟩ (.int .u8 o.side.toNat)).setCell ⟨g, i * 6 + 3, none⟩ (.int .i64 o.stock)).setCell ⟨g, i * 6 + 4, none⟩ (.int .i64 p)).setCell ⟨g, i * 6 + 5, none⟩ (.int .i64 m))) :=
              (((((Fr.setCell w ⟨g, i * 6, none⟩ _).trans (Fr.setCell _ ⟨g, i * 6 + 1, none⟩ _) (fun _ _ e => e)).trans (Fr.setCell _ ⟨g, i * 6 + 2, none⟩ _) (fun _ _ e => e)).trans (Fr.setCell _ ⟨g, i * 6 + 3, none⟩ _) (fun _ _ e => e)).trans (Fr.setCell _ ⟨g, i * 6 + 4, none⟩ _) (fun _ _ e => e)).trans (Fr.setCell _ ⟨g, i * 6 + 5, none⟩ _) (fun _ _ e => e)
            clear hk HR2
            go_wp2_with fail
            go_ret2
            have hB := HFR.out.belowB hb hbg
            refine ⟨hB.alloc (Nat.le_trans hb hB.size) _, Or.inr ⟨_, _, HE.out, rfl, ?_, HH.out.2.set ⟨HYS.out, rfl⟩⟩⟩
            exact ownsRow_keep HPA.out (fun g' hg' => by rw [heap_alloc, if_neg (by have := (World.ownsRow.lt HPA.out g' hg').2; omega)])
          · have HE : Hid (res = some (insO { ref := u, token := 0, side := o.side, stock := o.stock, price := p, shares := m } (S.eraseIdx i))) := by
              have := HR2.out
              rw [if_neg hk] at this
              exact this
            have hcase : ((p : Int) == (o.price : Int)) = false ∨ (((p : Int) == (o.price : Int)) = true ∧ ¬ (m : Int) ≤ (o.shares : Int)) := by
              by_cases e : p = o.price
              · right
                exact ⟨by simp [e], fun e2 => hk ⟨e, by omega⟩⟩
              · left
                rw [beq_eq_false_iff_ne]
                omega
            clear hk HR2
            rcases hcase with b3 | ⟨b3, b4⟩
            all_goals
              go_wp2_with fail
              generalize hOb : Obj.cells _ 46 = O
              have hbx : ∀ t x, ([.int .i64 u, .int .i64 0, .int .u8 o.side.toNat, .int .i64 o.stock, .int .i64 p, .int .i64 m] : List Value)[t]? = some x → (w.alloc O).cell? ⟨w.heap.size, t, none⟩ = some x := fun t x hx => by rw [← hOb]; exact new_cell _ _ _ t _ (by simpa using hx)
              have hBO : Below base w (w.alloc O) := (Below.refl base w).alloc hb O
              have hSO : RsAt (w.alloc O) base (.slice (some ⟨g, 0, none⟩) S.length cap) S := ownsRow_keep HH.out.1 (fun g' hg' => by rw [heap_alloc, if_neg (by have := (World.ownsRow.lt HH.out.1 g' hg').2; omega)])
              have hszO : (w.alloc O).heap.size = w.heap.size + 1 := size_alloc _ _
              clear hOb
              generalize w.alloc O = W at hbx hBO hSO hszO ⊢
              refine (without_any W base _ S i hSO hil hn).mono ?_
              rintro e w2 ⟨v2, rfl, hr2, hb2⟩
              have k0 : w2.cell? ⟨w.heap.size, 0, none⟩ = some (.int .i64 u) := (hb2.cell (p := ⟨w.heap.size, 0, none⟩) (show w.heap.size < W.heap.size by omega)).trans (hbx 0 _ rfl)
              have k1 : w2.cell? ⟨w.heap.size, 1, none⟩ = some (.int .i64 0) := (hb2.cell (p := ⟨w.heap.size, 1, none⟩) (show w.heap.size < W.heap.size by omega)).trans (hbx 1 _ rfl)
              have k2 : w2.cell? ⟨w.heap.size, 2, none⟩ = some (.int .u8 o.side.toNat) := (hb2.cell (p := ⟨w.heap.size, 2, none⟩) (show w.heap.size < W.heap.size by omega)).trans (hbx 2 _ rfl)
              have k3 : w2.cell? ⟨w.heap.size, 3, none⟩ = some (.int .i64 o.stock) := (hb2.cell (p := ⟨w.heap.size, 3, none⟩) (show w.heap.size < W.heap.size by omega)).trans (hbx 3 _ rfl)
              have k4 : w2.cell? ⟨w.heap.size, 4, none⟩ = some (.int .i64 p) := (hb2.cell (p := ⟨w.heap.size, 4, none⟩) (show w.heap.size < W.heap.size by omega)).trans (hbx 4 _ rfl)
              have k5 : w2.cell? ⟨w.heap.size, 5, none⟩ = some (.int .i64 m) := (hb2.cell (p := ⟨w.heap.size, 5, none⟩) (show w.heap.size < W.heap.size by omega)).trans (hbx 5 _ rfl)
              have HB2 : Hid (Below base w w2) := hBO.trans (hb2.mono (Nat.le_trans hb hBO.size))
              have HIN : Hid (Calls Try.prog 104 #[v2, .agg #[.int .i64 u, .int .i64 0, .int .u8 o.side.toNat, .int .i64 o.stock, .int .i64 p, .int .i64 m]] w2 fun e w' => ∃ v', e = .returned v' ∧ RsAt w' w2.heap.size v' (insO { ref := u, token := 0, side := o.side, stock := o.stock, price := p, shares := m } (S.eraseIdx i)) ∧ Below w2.heap.size w2 w') := insert_any w2 W.heap.size v2 (S.eraseIdx i) { ref := u, token := 0, side := o.side, stock := o.stock, price := p, shares := m } hr2 (by rw [List.length_eraseIdx]; split <;> omega)
              obtain ⟨r2, cap2, hv2, -, -, -⟩ := hr2.form
              subst hv2
              clear hbx hBO hSO hszO hr2 hb2 c0 c1 c2 c3 c4 c5
              go_wp2_with fail
              refine HIN.out.mono ?_
              rintro e w3 ⟨v3, rfl, hr3, hb3⟩
              have H3 := Hid.mk (And.intro hr3 hb3)
              clear hr3 hb3
              go_wp2_with fail
              go_ret2
              have hbw2 := Nat.le_trans hb HB2.out.size
              exact ⟨HB2.out.trans (H3.out.2.mono hbw2), Or.inr ⟨_, v3, HE.out, rfl, ownsRow_base H3.out.1 hbw2, (HH.out.2.erase i).ins ⟨HYS.out, rfl⟩⟩⟩
        · have hxk : ixv (rfind S u) = (i : Int) := by rw [hf]; rfl
          rw [hxk]
          have b2 : ((i : Int) == (i : Int)) = true := by simp
          have b2' : ((i : Int) != (i : Int)) = false := by rw [bne, b2]; rfl
          clear hxk hf
          by_cases hk : p = o.price ∧ m ≤ o.shares
          · have HE : Hid (res = some (S.set i { ref := u, token := 0, side := o.side, stock := o.stock, price := p, shares := m })) := by
              have := HR2.out
              rw [if_pos hk] at this
              exact this
            have b3 : ((p : Int) == (o.price : Int)) = true := by simp [hk.1]
            have b4 : (m : Int) ≤ (o.shares : Int) := by have := hk.2; omega
            have f0 := HFZ.out (i * 6)
            have f1 := HFZ.out (i * 6 + 1)
            have f2 := HFZ.out (i * 6 + 2)
            have f3 := HFZ.out (i * 6 + 3)
            have f4 := HFZ.out (i * 6 + 4)
            have f5 := HFZ.out (i * 6 + 5)
            have HPA : Hid (RsAt ((((((w.setCell ⟨g, i * 6, none⟩ (.int .i64 u)).setCell ⟨g, i * 6 + 1, none⟩ (.int .i64 0)).setCell ⟨g, i * 6 + 2, none⟩ (.int .u8 o.side.toNat)).setCell ⟨g, i * 6 + 3, none⟩ (.int .i64 o.stock)).setCell ⟨g, i * 6 + 4, none⟩ (.int .i64 p)).setCell ⟨g, i * 6 + 5, none⟩ (.int .i64 m)) base (.slice (some ⟨g, 0, none⟩) S.length cap) (S.set i { ref := u, token := 0, side := o.side, stock := o.stock, price := p, shares := m })) := HH.out.1.putAll i o { ref := u, token := 0, side := o.side, stock := o.stock, price := p, shares := m } HO.out
            have HFR : Hid (Fr (fun k => k = g) w ((((((w.setCell ⟨g, i * 6, none⟩ (.int .i64 u)).setCell ⟨g, i * 6 + 1, none⟩ (.int .i64 0)).setCell ⟨g, i * 6 + 2, none⟩ (.int .u8 o.side.toNat)).setCell ⟨g, i * 6 + 3, none⟩ (.int .i64 o.stock)).setCell ⟨g, i * 6 + 4, none⟩ (.int .i64 p)).setCell ⟨g, i * 6 + 5, none⟩ (.int .i64 m))) :=
              (((((Fr.setCell w ⟨g, i * 6, none⟩ _).trans (Fr.setCell _ ⟨g, i * 6 + 1, none⟩ _) (fun _ _ e => e)).trans (Fr.setCell _ ⟨g, i * 6 + 2, none⟩ _) (fun _ _ e => e)).trans (Fr.setCell _ ⟨g, i * 6 + 3, none⟩ _) (fun _ _ e => e)).trans (Fr.setCell _ ⟨g, i * 6 + 4, none⟩ _) (fun _ _ e => e)).trans (Fr.setCell _ ⟨g, i * 6 + 5, none⟩ _) (fun _ _ e => e)
            clear hk HR2
            go_wp2_with fail
            go_ret2
            have hB := HFR.out.belowB hb hbg
            refine ⟨hB.alloc (Nat.le_trans hb hB.size) _, Or.inr ⟨_, _, HE.out, rfl, ?_, HH.out.2.set ⟨HYS.out, rfl⟩⟩⟩
            exact ownsRow_keep HPA.out (fun g' hg' => by rw [heap_alloc, if_neg (by have := (World.ownsRow.lt HPA.out g' hg').2; omega)])
          · have HE : Hid (res = some (insO { ref := u, token := 0, side := o.side, stock := o.stock, price := p, shares := m } (S.eraseIdx i))) := by
              have := HR2.out
              rw [if_neg hk] at this
              exact this
            have hcase : ((p : Int) == (o.price : Int)) = false ∨ (((p : Int) == (o.price : Int)) = true ∧ ¬ (m : Int) ≤ (o.shares : Int)) := by
              by_cases e : p = o.price
              · right
                exact ⟨by simp [e], fun e2 => hk ⟨e, by omega⟩⟩
              · left
                rw [beq_eq_false_iff_ne]
                omega
            clear hk HR2
            rcases hcase with b3 | ⟨b3, b4⟩
            all_goals
              go_wp2_with fail
              generalize hOb : Obj.cells _ 46 = O
              have hbx : ∀ t x, ([.int .i64 u, .int .i64 0, .int .u8 o.side.toNat, .int .i64 o.stock, .int .i64 p, .int .i64 m] : List Value)[t]? = some x → (w.alloc O).cell? ⟨w.heap.size, t, none⟩ = some x := fun t x hx => by rw [← hOb]; exact new_cell _ _ _ t _ (by simpa using hx)
              have hBO : Below base w (w.alloc O) := (Below.refl base w).alloc hb O
              have hSO : RsAt (w.alloc O) base (.slice (some ⟨g, 0, none⟩) S.length cap) S := ownsRow_keep HH.out.1 (fun g' hg' => by rw [heap_alloc, if_neg (by have := (World.ownsRow.lt HH.out.1 g' hg').2; omega)])
              have hszO : (w.alloc O).heap.size = w.heap.size + 1 := size_alloc _ _
              clear hOb
              generalize w.alloc O = W at hbx hBO hSO hszO ⊢
              refine (without_any W base _ S i hSO hil hn).mono ?_
              rintro e w2 ⟨v2, rfl, hr2, hb2⟩
              have k0 : w2.cell? ⟨w.heap.size, 0, none⟩ = some (.int .i64 u) := (hb2.cell (p := ⟨w.heap.size, 0, none⟩) (show w.heap.size < W.heap.size by omega)).trans (hbx 0 _ rfl)
              have k1 : w2.cell? ⟨w.heap.size, 1, none⟩ = some (.int .i64 0) := (hb2.cell (p := ⟨w.heap.size, 1, none⟩) (show w.heap.size < W.heap.size by omega)).trans (hbx 1 _ rfl)
              have k2 : w2.cell? ⟨w.heap.size, 2, none⟩ = some (.int .u8 o.side.toNat) := (hb2.cell (p := ⟨w.heap.size, 2, none⟩) (show w.heap.size < W.heap.size by omega)).trans (hbx 2 _ rfl)
              have k3 : w2.cell? ⟨w.heap.size, 3, none⟩ = some (.int .i64 o.stock) := (hb2.cell (p := ⟨w.heap.size, 3, none⟩) (show w.heap.size < W.heap.size by omega)).trans (hbx 3 _ rfl)
              have k4 : w2.cell? ⟨w.heap.size, 4, none⟩ = some (.int .i64 p) := (hb2.cell (p := ⟨w.heap.size, 4, none⟩) (show w.heap.size < W.heap.size by omega)).trans (hbx 4 _ rfl)
              have k5 : w2.cell? ⟨w.heap.size, 5, none⟩ = some (.int .i64 m) := (hb2.cell (p := ⟨w.heap.size, 5, none⟩) (show w.heap.size < W.heap.size by omega)).trans (hbx 5 _ rfl)
              have HB2 : Hid (Below base w w2) := hBO.trans (hb2.mono (Nat.le_trans hb hBO.size))
              have HIN : Hid (Calls Try.prog 104 #[v2, .agg #[.int .i64 u, .int .i64 0, .int .u8 o.side.toNat, .int .i64 o.stock, .int .i64 p, .int .i64 m]] w2 fun e w' => ∃ v', e = .returned v' ∧ RsAt w' w2.heap.size v' (insO { ref := u, token := 0, side := o.side, stock := o.stock, price := p, shares := m } (S.eraseIdx i)) ∧ Below w2.heap.size w2 w') := insert_any w2 W.heap.size v2 (S.eraseIdx i) { ref := u, token := 0, side := o.side, stock := o.stock, price := p, shares := m } hr2 (by rw [List.length_eraseIdx]; split <;> omega)
              obtain ⟨r2, cap2, hv2, -, -, -⟩ := hr2.form
              subst hv2
              clear hbx hBO hSO hszO hr2 hb2 c0 c1 c2 c3 c4 c5
              go_wp2_with fail
              refine HIN.out.mono ?_
              rintro e w3 ⟨v3, rfl, hr3, hb3⟩
              have H3 := Hid.mk (And.intro hr3 hb3)
              clear hr3 hb3
              go_wp2_with fail
              go_ret2
              have hbw2 := Nat.le_trans hb HB2.out.size
              exact ⟨HB2.out.trans (H3.out.2.mono hbw2), Or.inr ⟨_, v3, HE.out, rfl, ownsRow_base H3.out.1 hbw2, (HH.out.2.erase i).ins ⟨HYS.out, rfl⟩⟩⟩

end Go.Proofs.Ytphkchjejbffeaa

/- The walk of the document's taped. -/
namespace Go.Proofs.Ytphkchjejbffeaa
open Go.RowKit
attribute [local go_sem ↓] Go.wp_at_zero Go.wp_at_succ

set_option maxRecDepth 100000 in
set_option maxHeartbeats 4000000 in
theorem rtaped_e {w : World} {base : Nat} {v : Value} {S : List Ord} (h : RsAt w base v S) (hsm : SmR S) (hb : base ≤ w.heap.size) (hn : S.length ≤ 1000000000) (gm om cm : Nat) (M : List UInt8) (hM : Lies w gm om M) (hl : M.length = 17) (hc : 17 ≤ cm) (hcm : cm ≤ 9223372036854775807) (_hgm : gm < base) (h0 : byteAt M 0 = 101) :
    Calls Try.prog 68 #[v, .slice (some ⟨gm, om, none⟩) 17 cm] w (RefP (rTaped S 101 (M.drop 7)) base w) := by
  have c0 : w.cell? ⟨gm, om, none⟩ = some (.int .u8 101) := by
    have := hM.cell 0 (by omega)
    have e : M.getD 0 0 = 101 := h0
    rw [e] at this
    exact this
  have HV : Hid (∀ (j n cap t : Nat), j + n ≤ M.length → n ≤ 7 → num ((M.drop j).take n) 0 = t → Calls Try.prog 102 #[.slice (some ⟨gm, om + j, none⟩) n cap] w fun e w' => e = .returned (.int .i64 t) ∧ w' = w) := fun j n cap t h1 h2 h3 => rval_part hM j n cap t h1 h2 h3
  obtain ⟨t, ht⟩ : ∃ t, at_ (M.drop 7) 0 4 = t := ⟨_, rfl⟩
  have HT : Hid (num ((M.drop 7).take 4) 0 = t) := ht
  have HF := Hid.mk (rfnd_any w base v S t h)
  rw [rfi_ixv] at HF
  have HIL : Hid (∀ i, rfind S t = some i → i < S.length) := fun i hi => by
    obtain ⟨o, ho, -⟩ := rfind_some hi
    exact (List.getElem?_eq_some_iff.1 ho).1
  have i4 : (17 : Int) ≤ (cm : Int) := by omega
  have i5 : (cm : Int) ≤ 9223372036854775807 := by omega
  obtain ⟨m, hm⟩ : ∃ m, at_ (M.drop 7) 4 2 = m := ⟨_, rfl⟩
  have HM : Hid (num ((M.drop 11).take 2) 0 = m) := (at_drop M 7 4 2).trans hm
  have hm2 := at_lt2 (M.drop 7) 4
  rw [hm] at hm2
  have HR : Hid (rTaped S 101 (M.drop 7) = rGone S (rfind S t) m true) := by rw [← ht, ← hm]; rfl
  generalize rTaped S 101 (M.drop 7) = res at *
  have HG := Hid.mk (rgone_any h hsm hb hn (rfind S t) HIL.out m hm2 true)
  obtain ⟨ra, cap, hv, -, -, -⟩ := h.form
  subst hv
  clear h hM ht hm
  go_enter Try.func68, Try.ntmps68
  go_wp2_with fail
  refine (HV.out 7 4 _ t (by omega) (by omega) HT.out).mono ?_
  rintro e w' ⟨rfl, hw⟩
  replace hw := hw.symm
  subst hw
  go_wp2_with fail
  refine HF.out.mono ?_
  rintro e w' ⟨rfl, hw⟩
  replace hw := hw.symm
  subst hw
  clear HF
  go_wp2_with fail
  refine (HV.out 11 2 _ m (by omega) (by omega) HM.out).mono ?_
  rintro e w' ⟨rfl, hw⟩
  replace hw := hw.symm
  subst hw
  go_wp2_with fail
  refine HG.out.mono ?_
  rintro e w2 ⟨hB, ⟨h1, rfl⟩ | ⟨S', v', h1, rfl, h2, h3⟩⟩
  · go_wp2_with fail
    go_ret2
    exact ⟨hB, Or.inl ⟨HR.out.trans h1, rfl⟩⟩
  · have H2 := Hid.mk (And.intro hB (And.intro h1 (And.intro h2 h3)))
    clear hB h1 h2 h3
    go_wp2_with fail
    go_ret2
    exact ⟨H2.out.1, Or.inr ⟨S', v', HR.out.trans H2.out.2.1, rfl, H2.out.2.2.1, H2.out.2.2.2⟩⟩

set_option maxRecDepth 100000 in
set_option maxHeartbeats 4000000 in
theorem rtaped_x {w : World} {base : Nat} {v : Value} {S : List Ord} (h : RsAt w base v S) (hsm : SmR S) (hb : base ≤ w.heap.size) (hn : S.length ≤ 1000000000) (gm om cm : Nat) (M : List UInt8) (hM : Lies w gm om M) (hl : M.length = 13) (hc : 13 ≤ cm) (hcm : cm ≤ 9223372036854775807) (_hgm : gm < base) (h0 : byteAt M 0 = 120) :
    Calls Try.prog 68 #[v, .slice (some ⟨gm, om, none⟩) 13 cm] w (RefP (rTaped S 120 (M.drop 7)) base w) := by
  have c0 : w.cell? ⟨gm, om, none⟩ = some (.int .u8 120) := by
    have := hM.cell 0 (by omega)
    have e : M.getD 0 0 = 120 := h0
    rw [e] at this
    exact this
  have HV : Hid (∀ (j n cap t : Nat), j + n ≤ M.length → n ≤ 7 → num ((M.drop j).take n) 0 = t → Calls Try.prog 102 #[.slice (some ⟨gm, om + j, none⟩) n cap] w fun e w' => e = .returned (.int .i64 t) ∧ w' = w) := fun j n cap t h1 h2 h3 => rval_part hM j n cap t h1 h2 h3
  obtain ⟨t, ht⟩ : ∃ t, at_ (M.drop 7) 0 4 = t := ⟨_, rfl⟩
  have HT : Hid (num ((M.drop 7).take 4) 0 = t) := ht
  have HF := Hid.mk (rfnd_any w base v S t h)
  rw [rfi_ixv] at HF
  have HIL : Hid (∀ i, rfind S t = some i → i < S.length) := fun i hi => by
    obtain ⟨o, ho, -⟩ := rfind_some hi
    exact (List.getElem?_eq_some_iff.1 ho).1
  have i4 : (13 : Int) ≤ (cm : Int) := by omega
  have i5 : (cm : Int) ≤ 9223372036854775807 := by omega
  obtain ⟨m, hm⟩ : ∃ m, at_ (M.drop 7) 4 2 = m := ⟨_, rfl⟩
  have HM : Hid (num ((M.drop 11).take 2) 0 = m) := (at_drop M 7 4 2).trans hm
  have hm2 := at_lt2 (M.drop 7) 4
  rw [hm] at hm2
  have HR : Hid (rTaped S 120 (M.drop 7) = rGone S (rfind S t) m false) := by rw [← ht, ← hm]; rfl
  generalize rTaped S 120 (M.drop 7) = res at *
  have HG := Hid.mk (rgone_any h hsm hb hn (rfind S t) HIL.out m hm2 false)
  obtain ⟨ra, cap, hv, -, -, -⟩ := h.form
  subst hv
  clear h hM ht hm
  go_enter Try.func68, Try.ntmps68
  go_wp2_with fail
  refine (HV.out 7 4 _ t (by omega) (by omega) HT.out).mono ?_
  rintro e w' ⟨rfl, hw⟩
  replace hw := hw.symm
  subst hw
  go_wp2_with fail
  refine HF.out.mono ?_
  rintro e w' ⟨rfl, hw⟩
  replace hw := hw.symm
  subst hw
  clear HF
  go_wp2_with fail
  refine (HV.out 11 2 _ m (by omega) (by omega) HM.out).mono ?_
  rintro e w' ⟨rfl, hw⟩
  replace hw := hw.symm
  subst hw
  go_wp2_with fail
  refine HG.out.mono ?_
  rintro e w2 ⟨hB, ⟨h1, rfl⟩ | ⟨S', v', h1, rfl, h2, h3⟩⟩
  · go_wp2_with fail
    go_ret2
    exact ⟨hB, Or.inl ⟨HR.out.trans h1, rfl⟩⟩
  · have H2 := Hid.mk (And.intro hB (And.intro h1 (And.intro h2 h3)))
    clear hB h1 h2 h3
    go_wp2_with fail
    go_ret2
    exact ⟨H2.out.1, Or.inr ⟨S', v', HR.out.trans H2.out.2.1, rfl, H2.out.2.2.1, H2.out.2.2.2⟩⟩

set_option maxRecDepth 100000 in
set_option maxHeartbeats 4000000 in
theorem rtaped_u {w : World} {base : Nat} {v : Value} {S : List Ord} (h : RsAt w base v S) (hsm : SmR S) (hb : base ≤ w.heap.size) (hn : S.length ≤ 1000000000) (gm om cm : Nat) (M : List UInt8) (hM : Lies w gm om M) (hl : M.length = 19) (hc : 19 ≤ cm) (hcm : cm ≤ 9223372036854775807) (hgm : gm < base) (h0 : byteAt M 0 = 117) :
    Calls Try.prog 68 #[v, .slice (some ⟨gm, om, none⟩) 19 cm] w (RefP (rTaped S 117 (M.drop 7)) base w) := by
  have c0 : w.cell? ⟨gm, om, none⟩ = some (.int .u8 117) := by
    have := hM.cell 0 (by omega)
    have e : M.getD 0 0 = 117 := h0
    rw [e] at this
    exact this
  have HV : Hid (∀ (j n cap t : Nat), j + n ≤ M.length → n ≤ 7 → num ((M.drop j).take n) 0 = t → Calls Try.prog 102 #[.slice (some ⟨gm, om + j, none⟩) n cap] w fun e w' => e = .returned (.int .i64 t) ∧ w' = w) := fun j n cap t h1 h2 h3 => rval_part hM j n cap t h1 h2 h3
  obtain ⟨t, ht⟩ : ∃ t, at_ (M.drop 7) 0 4 = t := ⟨_, rfl⟩
  have HT : Hid (num ((M.drop 7).take 4) 0 = t) := ht
  have HF := Hid.mk (rfnd_any w base v S t h)
  rw [rfi_ixv] at HF
  have HIL : Hid (∀ i, rfind S t = some i → i < S.length) := fun i hi => by
    obtain ⟨o, ho, -⟩ := rfind_some hi
    exact (List.getElem?_eq_some_iff.1 ho).1
  have i4 : (19 : Int) ≤ (cm : Int) := by omega
  have i5 : (cm : Int) ≤ 9223372036854775807 := by omega
  have HR : Hid (rTaped S 117 (M.drop 7) = rOther S (rfind S t) (M.drop 7)) := by rw [← ht]; rfl
  have HG := Hid.mk (rother_any h hsm hb hn (rfind S t) HIL.out gm om cm M hM hl hc hcm hgm)
  generalize rTaped S 117 (M.drop 7) = res at *
  generalize rOther S (rfind S t) (M.drop 7) = res2 at *
  obtain ⟨ra, cap, hv, -, -, -⟩ := h.form
  subst hv
  clear h hM ht
  go_enter Try.func68, Try.ntmps68
  go_wp2_with fail
  refine (HV.out 7 4 _ t (by omega) (by omega) HT.out).mono ?_
  rintro e w' ⟨rfl, hw⟩
  replace hw := hw.symm
  subst hw
  go_wp2_with fail
  refine HF.out.mono ?_
  rintro e w' ⟨rfl, hw⟩
  replace hw := hw.symm
  subst hw
  clear HF
  go_wp2_with fail
  refine HG.out.mono ?_
  rintro e w2 ⟨hB, ⟨h1, rfl⟩ | ⟨S', v', h1, rfl, h2, h3⟩⟩
  · go_wp2_with fail
    go_ret2
    exact ⟨hB, Or.inl ⟨HR.out.trans h1, rfl⟩⟩
  · have H2 := Hid.mk (And.intro hB (And.intro h1 (And.intro h2 h3)))
    clear hB h1 h2 h3
    go_wp2_with fail
    go_ret2
    exact ⟨H2.out.1, Or.inr ⟨S', v', HR.out.trans H2.out.2.1, rfl, H2.out.2.2.1, H2.out.2.2.2⟩⟩

set_option maxRecDepth 100000 in
set_option maxHeartbeats 4000000 in
theorem rtaped_d {w : World} {base : Nat} {v : Value} {S : List Ord} (h : RsAt w base v S) (hsm : SmR S) (hb : base ≤ w.heap.size) (hn : S.length ≤ 1000000000) (gm om cm : Nat) (M : List UInt8) (hM : Lies w gm om M) (hl : M.length = 11) (hc : 11 ≤ cm) (hcm : cm ≤ 9223372036854775807) (_hgm : gm < base) (h0 : byteAt M 0 = 100) :
    Calls Try.prog 68 #[v, .slice (some ⟨gm, om, none⟩) 11 cm] w (RefP (rTaped S 100 (M.drop 7)) base w) := by
  have c0 : w.cell? ⟨gm, om, none⟩ = some (.int .u8 100) := by
    have := hM.cell 0 (by omega)
    have e : M.getD 0 0 = 100 := h0
    rw [e] at this
    exact this
  have HV : Hid (∀ (j n cap t : Nat), j + n ≤ M.length → n ≤ 7 → num ((M.drop j).take n) 0 = t → Calls Try.prog 102 #[.slice (some ⟨gm, om + j, none⟩) n cap] w fun e w' => e = .returned (.int .i64 t) ∧ w' = w) := fun j n cap t h1 h2 h3 => rval_part hM j n cap t h1 h2 h3
  obtain ⟨t, ht⟩ : ∃ t, at_ (M.drop 7) 0 4 = t := ⟨_, rfl⟩
  have HT : Hid (num ((M.drop 7).take 4) 0 = t) := ht
  have HF := Hid.mk (rfnd_any w base v S t h)
  rw [rfi_ixv] at HF
  have HIL : Hid (∀ i, rfind S t = some i → i < S.length) := fun i hi => by
    obtain ⟨o, ho, -⟩ := rfind_some hi
    exact (List.getElem?_eq_some_iff.1 ho).1
  have i4 : (11 : Int) ≤ (cm : Int) := by omega
  have i5 : (cm : Int) ≤ 9223372036854775807 := by omega
  have HR : Hid (rTaped S 100 (M.drop 7) = (rfind S t).map fun i => S.eraseIdx i) := by rw [← ht]; rfl
  generalize rTaped S 100 (M.drop 7) = res at *
  have HH := Hid.mk (And.intro h hsm)
  obtain ⟨ra, cap, hv, -, -, -⟩ := h.form
  subst hv
  clear h hM ht
  go_enter Try.func68, Try.ntmps68
  go_wp2_with fail
  refine (HV.out 7 4 _ t (by omega) (by omega) HT.out).mono ?_
  rintro e w' ⟨rfl, hw⟩
  replace hw := hw.symm
  subst hw
  go_wp2_with fail
  refine HF.out.mono ?_
  rintro e w' ⟨rfl, hw⟩
  replace hw := hw.symm
  subst hw
  clear HF
  cases hf : rfind S t with
  | none =>
    have HE : Hid (res = none) := by have := HR.out; rw [hf] at this; exact this
    have hx : ixv none = -1 := rfl
    rw [hx]
    clear hx hf HR
    go_wp2_with fail
    go_ret2
    exact ⟨Below.refl _ _, Or.inl ⟨HE.out, rfl⟩⟩
  | some i =>
    have HE : Hid (res = some (S.eraseIdx i)) := by have := HR.out; rw [hf] at this; exact this
    have hil := HIL.out i hf
    have hx : ixv (some i) = (i : Int) := rfl
    rw [hx]
    have i3 : ¬ (i : Int) < 0 := by omega
    have HWO := Hid.mk (without_any w base _ S i HH.out.1 hil hn)
    clear hx hf HR
    go_wp2_with fail
    refine HWO.out.mono ?_
    rintro e w2 ⟨v2, rfl, hr2, hb2⟩
    have H2 := Hid.mk (And.intro hr2 hb2)
    clear hr2 hb2
    go_wp2_with fail
    go_ret2
    exact ⟨H2.out.2.mono hb, Or.inr ⟨_, v2, HE.out, rfl, ownsRow_base H2.out.1 hb, HH.out.2.erase i⟩⟩

set_option maxRecDepth 100000 in
set_option maxHeartbeats 4000000 in
theorem rtaped_a {w : World} {base : Nat} {v : Value} {S : List Ord} (h : RsAt w base v S) (hsm : SmR S) (hb : base ≤ w.heap.size) (hn : S.length ≤ 1000000000) (gm om cm : Nat) (M : List UInt8) (hM : Lies w gm om M) (hl : M.length = 17) (hc : 17 ≤ cm) (hcm : cm ≤ 9223372036854775807) (hgm : gm < base) (h0 : byteAt M 0 = 97) :
    Calls Try.prog 68 #[v, .slice (some ⟨gm, om, none⟩) 17 cm] w (RefP (rTaped S 97 (M.drop 7)) base w) := by
  have c0 : w.cell? ⟨gm, om, none⟩ = some (.int .u8 97) := by
    have := hM.cell 0 (by omega)
    have e : M.getD 0 0 = 97 := h0
    rw [e] at this
    exact this
  have HV : Hid (∀ (j n cap t : Nat), j + n ≤ M.length → n ≤ 7 → num ((M.drop j).take n) 0 = t → Calls Try.prog 102 #[.slice (some ⟨gm, om + j, none⟩) n cap] w fun e w' => e = .returned (.int .i64 t) ∧ w' = w) := fun j n cap t h1 h2 h3 => rval_part hM j n cap t h1 h2 h3
  obtain ⟨t, ht⟩ : ∃ t, at_ (M.drop 7) 0 4 = t := ⟨_, rfl⟩
  have HT : Hid (num ((M.drop 7).take 4) 0 = t) := ht
  have HF := Hid.mk (rfnd_any w base v S t h)
  rw [rfi_ixv] at HF
  have HIL : Hid (∀ i, rfind S t = some i → i < S.length) := fun i hi => by
    obtain ⟨o, ho, -⟩ := rfind_some hi
    exact (List.getElem?_eq_some_iff.1 ho).1
  have i4 : (17 : Int) ≤ (cm : Int) := by omega
  have i5 : (cm : Int) ≤ 9223372036854775807 := by omega
  obtain ⟨y, hy⟩ : ∃ y, fOrd (M.drop 7) = y := ⟨_, rfl⟩
  have hyr : t = y.ref := by rw [← hy, ← ht]; rfl
  have HE4 : Hid (num ((M.drop 15).take 2) 0 = y.price) := by rw [← hy]; exact at_drop M 7 8 2
  have HE5 : Hid (num ((M.drop 13).take 2) 0 = y.shares) := by rw [← hy]; exact at_drop M 7 6 2
  have hb7 : ∀ j, byteAt (M.drop 7) j = byteAt M (7 + j) := fun j => by
    unfold byteAt
    rw [List.getD_eq_getElem?_getD, List.getD_eq_getElem?_getD, List.getElem?_drop]
  have c11 : w.cell? ⟨gm, om + 11, none⟩ = some (.int .u8 y.side.toNat) := by
    have := hM.cell 11 (by omega)
    have e : M.getD 11 0 = y.side := by rw [← hy]; exact (hb7 4).symm
    rw [e] at this
    exact this
  have c12 : w.cell? ⟨gm, om + 12, none⟩ = some (.int .u8 y.stock) := by
    have := hM.cell 12 (by omega)
    have e : (M.getD 12 0).toNat = y.stock := by rw [← hy]; exact (congrArg UInt8.toNat (hb7 5)).symm
    rw [e] at this
    exact this
  have HTK : Hid (y.token = 0) := by rw [← hy]; rfl
  have HSM : Hid y.small := by
    rw [← hy]
    exact ⟨at_lt4 _ 0, by show 0 < 4294967296; omega, (byteAt (M.drop 7) 5).toNat_lt, at_lt2 _ 8, at_lt2 _ 6⟩
  have HR : Hid (rTaped S 97 (M.drop 7) = if (rfind S t).isSome ∨ ¬ (y.side = 66 ∨ y.side = 83) ∨ y.shares = 0 then none else some (insO y S)) := by
    rw [← hy, ← ht]
    rfl
  generalize rTaped S 97 (M.drop 7) = res at *
  have HVD : Hid (∀ (W : World) (j n cap : Nat), W.heap[gm]? = w.heap[gm]? → j + n ≤ 17 → n ≤ 7 → Calls Try.prog 102 #[.slice (some ⟨gm, om + j, none⟩) n cap] W fun e w' => e = .returned (.int .i64 (num ((M.drop j).take n) 0 : Nat)) ∧ w' = W) := fun W j n cap h0 h1 h2 => rval_part (hM.keep h0) j n cap _ (by omega) h2 rfl
  have HH := Hid.mk (And.intro h hsm)
  have hyst := HSM.out.stock
  have i6 : (y.stock : Int) < 256 := by omega
  have i10 : IntKind.i64.wrap (y.stock : Int) = (y.stock : Int) := by rw [IntKind.wrap_i64]; omega
  have i7 : (15 : Int) ≤ (cm : Int) := by omega
  have i8 : ¬ cm = 13 := by omega
  have i9 : ¬ cm = 15 := by omega
  obtain ⟨ra, cap, hv, -, -, -⟩ := h.form
  subst hv
  have HML : Hid (M.length = 17) := hl
  have hgw : gm < w.heap.size := Nat.lt_of_lt_of_le hgm hb
  clear h hM ht hy hb7 hl
  subst hyr
  go_enter Try.func68, Try.ntmps68
  go_wp2_with fail
  refine (HV.out 7 4 _ y.ref (by rw [HML.out]; omega) (by omega) HT.out).mono ?_
  rintro e w' ⟨rfl, hw⟩
  replace hw := hw.symm
  subst hw
  go_wp2_with fail
  refine HF.out.mono ?_
  rintro e w' ⟨rfl, hw⟩
  replace hw := hw.symm
  subst hw
  clear HF
  go_wp2_with fail
  go_region_held3 (fun w' => w'.cell? ⟨gm, om + 11, none⟩ = some (.int .u8 y.side.toNat) ∧ w'.cell? ⟨gm, om + 12, none⟩ = some (.int .u8 y.stock)) (first | go_keep)
    ((go_at_call 102; refine (HVD.out _ _ _ _ (by first | rfl | (show (w.alloc _).heap[gm]? = _; rw [heap_alloc, if_neg (by omega)])) (by omega) (by omega)).mono ?_; rintro e w' ⟨rfl, hw⟩; subst hw))
  all_goals
    rw [HE4.out, HE5.out]
    generalize hOb : Obj.cells _ 46 = O
    have hbx : ∀ t x, ([.int .i64 y.ref, .int .i64 0, .int .u8 y.side.toNat, .int .i64 y.stock, .int .i64 y.price, .int .i64 y.shares] : List Value)[t]? = some x → (w.alloc O).drew.cell? ⟨w.heap.size, t, none⟩ = some x := fun t x hx => by rw [← hOb]; exact new_cell _ _ _ t _ (by simpa using hx)
    have hBO : Below base w (w.alloc O).drew := ((Below.refl base w).alloc hb O).drew
    have hSO : RsAt (w.alloc O).drew base (.slice ra S.length cap) S := ownsRow_keep HH.out.1 (fun g' hg' => by show (w.alloc O).heap[g']? = _; rw [heap_alloc, if_neg (by have := (World.ownsRow.lt HH.out.1 g' hg').2; omega)])
    clear hOb
    generalize (w.alloc O).drew = W at hbx hBO hSO ⊢
    have k0 := hbx 0 _ rfl
    have k1 := hbx 1 _ rfl
    have k2 := hbx 2 _ rfl
    have k3 := hbx 3 _ rfl
    have k4 := hbx 4 _ rfl
    have k5 := hbx 5 _ rfl
    have HIN : Hid (Calls Try.prog 104 #[.slice ra S.length cap, .agg #[.int .i64 y.ref, .int .i64 0, .int .u8 y.side.toNat, .int .i64 y.stock, .int .i64 y.price, .int .i64 y.shares]] W fun e w' => ∃ v', e = .returned v' ∧ RsAt w' W.heap.size v' (insO y S) ∧ Below W.heap.size W w') := by
      have := insert_any W base _ S y hSO hn
      unfold Ord.cells at this
      rw [HTK.out] at this
      exact this
    have HBO := Hid.mk hBO
    clear hbx hBO hSO HVD c0 c11 c12
    cases hf : rfind S y.ref with
    | some i =>
      have HE : Hid (res = none) := by have := HR.out; rw [hf, if_pos (Or.inl (show (some i).isSome = true from rfl))] at this; exact this
      have hx : ixv (some i) = (i : Int) := rfl
      rw [hx]
      have b0 : (0 : Int) ≤ (i : Int) := by omega
      clear hx hf HR
      go_wp2_with fail
      go_ret2
      exact ⟨HBO.out, Or.inl ⟨HE.out, rfl⟩⟩
    | none =>
      have hx : ixv none = -1 := rfl
      rw [hx]
      have HR2 : Hid (res = if ¬ (y.side = 66 ∨ y.side = 83) ∨ y.shares = 0 then none else some (insO y S)) := by
        have := HR.out
        rw [hf] at this
        simp only [Option.isSome_none, Bool.false_eq_true, false_or] at this
        exact this
      clear hx hf HR
      have hsides : (y.side = 66 ∧ ((y.side.toNat : Int) == 66) = true ∧ ((y.side.toNat : Int) != 66) = false) ∨ (y.side = 83 ∧ ((y.side.toNat : Int) == 66) = false ∧ ((y.side.toNat : Int) != 66) = true ∧ ((y.side.toNat : Int) == 83) = true ∧ ((y.side.toNat : Int) != 83) = false) ∨ (¬ (y.side = 66 ∨ y.side = 83) ∧ ((y.side.toNat : Int) == 66) = false ∧ ((y.side.toNat : Int) != 66) = true ∧ ((y.side.toNat : Int) == 83) = false ∧ ((y.side.toNat : Int) != 83) = true) := by
        by_cases e1 : y.side = 66
        · left; rw [e1]; exact ⟨rfl, by decide, by decide⟩
        · have n1 : ((y.side.toNat : Int) == 66) = false := by rw [beq_eq_false_iff_ne]; intro e; exact e1 (UInt8.toNat_inj.1 (show y.side.toNat = 66 by omega))
          by_cases e2 : y.side = 83
          · right; left; rw [e2]; exact ⟨rfl, by decide, by decide, by decide, by decide⟩
          · have n2 : ((y.side.toNat : Int) == 83) = false := by rw [beq_eq_false_iff_ne]; intro e; exact e2 (UInt8.toNat_inj.1 (show y.side.toNat = 83 by omega))
            right; right
            exact ⟨fun h => h.elim e1 e2, n1, by rw [bne, n1]; rfl, n2, by rw [bne, n2]; rfl⟩
      rcases hsides with ⟨hsd, s1, s2⟩ | ⟨hsd, s1, s2, s3, s4⟩ | ⟨hsd, s1, s2, s3, s4⟩
      · by_cases hsh : y.shares = 0
        · have b1 : ((y.shares : Int) == 0) = true := by simp [hsh]
          have HE : Hid (res = none) := by have := HR2.out; rw [if_pos (Or.inr hsh)] at this; exact this
          clear hsh hsd HR2
          go_wp2_with fail
          go_ret2
          exact ⟨HBO.out, Or.inl ⟨HE.out, rfl⟩⟩
        · have b1 : ((y.shares : Int) == 0) = false := by rw [beq_eq_false_iff_ne]; omega
          have HE : Hid (res = some (insO y S)) := by have := HR2.out; rw [if_neg (by rintro (hh | hh); exact hh (Or.inl hsd); exact hsh hh)] at this; exact this
          clear hsh hsd HR2
          go_wp2_with fail
          refine HIN.out.mono ?_
          rintro e w2 ⟨v2, rfl, hr2, hb2⟩
          have H2 := Hid.mk (And.intro hr2 hb2)
          clear hr2 hb2
          go_wp2_with fail
          go_ret2
          have hbW := Nat.le_trans hb HBO.out.size
          exact ⟨HBO.out.trans (H2.out.2.mono hbW), Or.inr ⟨_, v2, HE.out, rfl, ownsRow_base H2.out.1 hbW, HH.out.2.ins ⟨HSM.out, HTK.out⟩⟩⟩
      · by_cases hsh : y.shares = 0
        · have b1 : ((y.shares : Int) == 0) = true := by simp [hsh]
          have HE : Hid (res = none) := by have := HR2.out; rw [if_pos (Or.inr hsh)] at this; exact this
          clear hsh hsd HR2
          go_wp2_with fail
          go_ret2
          exact ⟨HBO.out, Or.inl ⟨HE.out, rfl⟩⟩
        · have b1 : ((y.shares : Int) == 0) = false := by rw [beq_eq_false_iff_ne]; omega
          have HE : Hid (res = some (insO y S)) := by have := HR2.out; rw [if_neg (by rintro (hh | hh); exact hh (Or.inr hsd); exact hsh hh)] at this; exact this
          clear hsh hsd HR2
          go_wp2_with fail
          refine HIN.out.mono ?_
          rintro e w2 ⟨v2, rfl, hr2, hb2⟩
          have H2 := Hid.mk (And.intro hr2 hb2)
          clear hr2 hb2
          go_wp2_with fail
          go_ret2
          have hbW := Nat.le_trans hb HBO.out.size
          exact ⟨HBO.out.trans (H2.out.2.mono hbW), Or.inr ⟨_, v2, HE.out, rfl, ownsRow_base H2.out.1 hbW, HH.out.2.ins ⟨HSM.out, HTK.out⟩⟩⟩
      · have HE : Hid (res = none) := by have := HR2.out; rw [if_pos (Or.inl hsd)] at this; exact this
        clear hsd HR2
        go_wp2_with fail
        go_ret2
        exact ⟨HBO.out, Or.inl ⟨HE.out, rfl⟩⟩

end Go.Proofs.Ytphkchjejbffeaa

/- The walks of tapeBytes, follow and Build. -/
namespace Go.Proofs.Ytphkchjejbffeaa
open Go.RowKit
attribute [local go_sem ↓] Go.wp_at_zero Go.wp_at_succ

set_option maxHeartbeats 400000 in
theorem tapeBytes_any (t : UInt8) (w : World) : Calls Try.prog 37 #[.int .u8 t.toNat] w fun e w' => e = .returned (.int .i64 (tSize t : Nat)) ∧ w' = w := by
  have ne : ∀ u : UInt8, t ≠ u → (((t.toNat : Int)) == (u.toNat : Int)) = false := by
    intro u hu
    rw [beq_eq_false_iff_ne]
    intro e
    exact hu (UInt8.toNat_inj.1 (by omega))
  have hall : t = 97 ∨ t = 101 ∨ t = 120 ∨ t = 100 ∨ t = 117 ∨ (t ≠ 97 ∧ t ≠ 101 ∧ t ≠ 120 ∧ t ≠ 100 ∧ t ≠ 117) := by
    by_cases h1 : t = 97
    · exact .inl h1
    · by_cases h2 : t = 101
      · exact .inr (.inl h2)
      · by_cases h3 : t = 120
        · exact .inr (.inr (.inl h3))
        · by_cases h4 : t = 100
          · exact .inr (.inr (.inr (.inl h4)))
          · by_cases h5 : t = 117
            · exact .inr (.inr (.inr (.inr (.inl h5))))
            · exact .inr (.inr (.inr (.inr (.inr ⟨h1, h2, h3, h4, h5⟩))))
  rcases hall with rfl | rfl | rfl | rfl | rfl | ⟨h1, h2, h3, h4, h5⟩
  · go_enter Try.func37, Try.ntmps37
    go_wp2
    go_ret
    exact ⟨rfl, rfl⟩
  · go_enter Try.func37, Try.ntmps37
    go_wp2
    go_ret
    exact ⟨rfl, rfl⟩
  · go_enter Try.func37, Try.ntmps37
    go_wp2
    go_ret
    exact ⟨rfl, rfl⟩
  · go_enter Try.func37, Try.ntmps37
    go_wp2
    go_ret
    exact ⟨rfl, rfl⟩
  · go_enter Try.func37, Try.ntmps37
    go_wp2
    go_ret
    exact ⟨rfl, rfl⟩
  · have e1 : (((t.toNat : Int)) == 97) = false := ne 97 h1
    have e2 : (((t.toNat : Int)) == 101) = false := ne 101 h2
    have e3 : (((t.toNat : Int)) == 120) = false := ne 120 h3
    have e4 : (((t.toNat : Int)) == 100) = false := ne 100 h4
    have e5 : (((t.toNat : Int)) == 117) = false := ne 117 h5
    have HS : Hid (tSize t = 0) := by
      show _ = _
      unfold tSize
      rw [if_neg h1, if_neg h2, if_neg h3, if_neg h4, if_neg h5]
    clear ne h1 h2 h3 h4 h5
    go_enter Try.func37, Try.ntmps37
    go_wp2
    go_ret
    exact ⟨by rw [HS.out]; rfl, rfl⟩

theorem tSize_cases (t : UInt8) : tSize t = 0 ∨ (t = 97 ∧ tSize t = 17) ∨ (t = 101 ∧ tSize t = 17) ∨ (t = 120 ∧ tSize t = 13) ∨ (t = 100 ∧ tSize t = 11) ∨ (t = 117 ∧ tSize t = 19) := by
  by_cases h1 : t = 97
  · subst h1; exact .inr (.inl ⟨rfl, rfl⟩)
  · by_cases h2 : t = 101
    · subst h2; exact .inr (.inr (.inl ⟨rfl, rfl⟩))
    · by_cases h3 : t = 120
      · subst h3; exact .inr (.inr (.inr (.inl ⟨rfl, rfl⟩)))
      · by_cases h4 : t = 100
        · subst h4; exact .inr (.inr (.inr (.inr (.inl ⟨rfl, rfl⟩))))
        · by_cases h5 : t = 117
          · subst h5; exact .inr (.inr (.inr (.inr (.inr ⟨rfl, rfl⟩))))
          · left
            unfold tSize
            rw [if_neg h1, if_neg h2, if_neg h3, if_neg h4, if_neg h5]

set_option maxRecDepth 100000 in
set_option maxHeartbeats 1000000 in
theorem follow_any {w : World} {base r : Nat} {L : List Ord} (h : RbAt w base r L) (hb : base ≤ w.heap.size) (hL : L.length < 4398046511104) (t : UInt8) (g o n cap : Nat) (f : List UInt8) (hf : f.length = n) (hn : n = tSize t - 7) (hz : tSize t ≠ 0) (hc : n ≤ cap) (hc2 : cap ≤ 9223372036854775807) (hl : Lies w g o f) (hg : g < w.heap.size) :
    Calls Try.prog 38 #[.pointer (some ⟨r, 0, none⟩), .int .u8 t.toNat, .slice (some ⟨g, o, none⟩) n cap] w (FolP (fol L t f) base r w) := by
  rcases tSize_cases t with e | ⟨rfl, e⟩ | ⟨rfl, e⟩ | ⟨rfl, e⟩ | ⟨rfl, e⟩ | ⟨rfl, e⟩
  · exact absurd e hz
  · obtain rfl : n = 10 := by rw [hn, e]
    have HX := Hid.mk (rests_tape h hb hL g o cap f hf hc hc2 hl hg)
    clear h hl hn hz e
    go_enter Try.func38, Try.ntmps38
    go_wp2_with fail
    refine HX.out.mono ?_
    rintro e w1 ⟨hB, ⟨h1, rfl⟩ | ⟨L', h1, rfl, h2⟩⟩
    · go_wp2_with fail
      go_ret
      exact ⟨hB, Or.inl ⟨h1, rfl⟩⟩
    · go_wp2_with fail
      go_ret
      exact ⟨hB, Or.inr ⟨L', h1, rfl, h2⟩⟩
  · obtain rfl : n = 10 := by rw [hn, e]
    have HX := Hid.mk (executed_any h hb g o cap f hf hc hc2 hl)
    clear h hl hn hz e
    go_enter Try.func38, Try.ntmps38
    go_wp2_with fail
    refine HX.out.mono ?_
    rintro e w1 ⟨hB, ⟨h1, rfl⟩ | ⟨L', h1, rfl, h2⟩⟩
    · go_wp2_with fail
      go_ret
      exact ⟨hB, Or.inl ⟨h1, rfl⟩⟩
    · go_wp2_with fail
      go_ret
      exact ⟨hB, Or.inr ⟨L', h1, rfl, h2⟩⟩
  · obtain rfl : n = 6 := by rw [hn, e]
    have HX := Hid.mk (lessened_any h hb g o cap f hf hc hc2 hl)
    clear h hl hn hz e
    go_enter Try.func38, Try.ntmps38
    go_wp2_with fail
    refine HX.out.mono ?_
    rintro e w1 ⟨hB, ⟨h1, rfl⟩ | ⟨L', h1, rfl, h2⟩⟩
    · go_wp2_with fail
      go_ret
      exact ⟨hB, Or.inl ⟨h1, rfl⟩⟩
    · go_wp2_with fail
      go_ret
      exact ⟨hB, Or.inr ⟨L', h1, rfl, h2⟩⟩
  · obtain rfl : n = 4 := by rw [hn, e]
    have HX := Hid.mk (gone_any h hb g o cap f hf hc hc2 hl)
    clear h hl hn hz e
    go_enter Try.func38, Try.ntmps38
    go_wp2_with fail
    refine HX.out.mono ?_
    rintro e w1 ⟨hB, ⟨h1, rfl⟩ | ⟨L', h1, rfl, h2⟩⟩
    · go_wp2_with fail
      go_ret
      exact ⟨hB, Or.inl ⟨h1, rfl⟩⟩
    · go_wp2_with fail
      go_ret
      exact ⟨hB, Or.inr ⟨L', h1, rfl, h2⟩⟩
  · obtain rfl : n = 12 := by rw [hn, e]
    have HX := Hid.mk (swapped_any h hb hL g o cap f hf hc hc2 hl)
    clear h hl hn hz e
    go_enter Try.func38, Try.ntmps38
    go_wp2_with fail
    refine HX.out.mono ?_
    rintro e w1 ⟨hB, ⟨h1, rfl⟩ | ⟨L', h1, rfl, h2⟩⟩
    · go_wp2_with fail
      go_ret
      exact ⟨hB, Or.inl ⟨h1, rfl⟩⟩
    · go_wp2_with fail
      go_ret
      exact ⟨hB, Or.inr ⟨L', h1, rfl, h2⟩⟩

end Go.Proofs.Ytphkchjejbffeaa
