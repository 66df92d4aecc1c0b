/- The law First, out of what the calls do. -/
import Derived.Test.YtphkchjejbffeaaG05
import Derived.Deep.CutBlock
import Derived.Deep.DeepCutAuto
namespace Go.Proofs.Ytphkchjejbffeaa
open Go.RowKit
attribute [local go_sem ↓] Go.wp_at_zero Go.wp_at_succ

theorem list_len16 {α : Type} (l : List α) (h : l.length = 16) : ∃ x0 x1 x2 x3 x4 x5 x6 x7 x8 x9 x10 x11 x12 x13 x14 x15, l = [x0, x1, x2, x3, x4, x5, x6, x7, x8, x9, x10, x11, x12, x13, x14, x15] := by
  match l, h with
  | [x0, x1, x2, x3, x4, x5, x6, x7, x8, x9, x10, x11, x12, x13, x14, x15], _ => exact ⟨x0, x1, x2, x3, x4, x5, x6, x7, x8, x9, x10, x11, x12, x13, x14, x15, rfl⟩
theorem list_len15 {α : Type} (l : List α) (h : l.length = 15) : ∃ x0 x1 x2 x3 x4 x5 x6 x7 x8 x9 x10 x11 x12 x13 x14, l = [x0, x1, x2, x3, x4, x5, x6, x7, x8, x9, x10, x11, x12, x13, x14] := by
  match l, h with
  | [x0, x1, x2, x3, x4, x5, x6, x7, x8, x9, x10, x11, x12, x13, x14], _ => exact ⟨x0, x1, x2, x3, x4, x5, x6, x7, x8, x9, x10, x11, x12, x13, x14, rfl⟩

/-- The price of the i-th order. -/
def prOf (l : List Int) (i : Nat) : Nat := 1 + pick (l.getD i 0) 10
theorem prOf_le (l : List Int) (i : Nat) : 1 ≤ prOf l i ∧ prOf l i ≤ 10 := by have := pick_lt (l.getD i 0) 10 (by decide); unfold prOf; omega

/-- What is read of the j-th that was met. -/
theorem first_read {w : World} {g : Nat} {dd : UInt8} {pr : Nat → Nat} {lim n : Nat} {A : List UInt8} {L : List Ord} {ans hd tl : List UInt8} {m j i p : Nat} (hA : A.length = 22) (hL : L.map (fun x => (x.token, x.price)) = firstAll dd pr lim n)
    (ha : ans = A ++ fills hd 500 m L ++ tl) (hh : hd.length = 7) (hj : (firstAll dd pr lim n)[j]? = some (i, p)) (hl : Lies w g 0 ans) :
    (hd.head? = some 70 → w.cell? ⟨g, 22 + 38 * j, none⟩ = some (.int .u8 70)) ∧ Lies w g (22 + 38 * j + 7) (enc i 4) ∧ Lies w g (22 + 38 * j + 13) (enc p 2) ∧ Lies w g (22 + 38 * j + 26) (enc 500 4) ∧ j < L.length := by
  rw [← hL, List.getElem?_map, Option.map_eq_some_iff] at hj
  obtain ⟨f, hf, hfe⟩ := hj
  simp only [Prod.mk.injEq] at hfe
  obtain ⟨rfl, rfl⟩ := hfe
  obtain ⟨x, y, rest, hd38⟩ := fills_at hd hh 500 L m j f hf
  have hjl : j < L.length := (List.getElem?_eq_some_iff.1 hf).1
  have hfl := fills_len hd hh 500 L m
  have hdr : ans.drop (22 + 38 * j) = hd ++ (enc f.token 4 ++ enc 1 2 ++ enc f.price 2 ++ enc x 4 ++ hd ++ enc 500 4 ++ enc 1 2 ++ enc f.price 2 ++ enc y 4 ++ rest ++ tl) := by
    rw [ha, ← List.drop_drop, List.append_assoc, List.drop_left' hA, List.drop_append_of_le_length (by omega), hd38]
    simp only [List.append_assoc]
  have hD := hl.drop (22 + 38 * j)
  rw [hdr, Nat.zero_add] at hD
  have k7 := hD.drop 7
  rw [List.drop_left' hh] at k7
  have e4 := enc_length f.token 4
  have e2 := enc_length 1 2
  have e2' := enc_length f.price 2
  have ex := enc_length x 4
  have l7 : Lies w g (22 + 38 * j + 7) (enc f.token 4) := by
    have := k7.take 4
    simp only [List.append_assoc] at this
    rwa [List.take_left' e4] at this
  have k11 := k7.drop 4
  simp only [List.append_assoc] at k11
  rw [List.drop_left' e4] at k11
  have k13 := k11.drop 2
  rw [List.drop_left' e2] at k13
  have l13 : Lies w g (22 + 38 * j + 13) (enc f.price 2) := by
    have := k13.take 2
    rwa [List.take_left' e2'] at this
  have k15 := k13.drop 2
  rw [List.drop_left' e2'] at k15
  have k19 := k15.drop 4
  rw [List.drop_left' ex] at k19
  have k26 := k19.drop 7
  rw [List.drop_left' hh] at k26
  have l26 : Lies w g (22 + 38 * j + 26) (enc 500 4) := by
    have := k26.take 4
    rwa [List.take_left' (enc_length 500 4)] at this
  refine ⟨?_, l7, l13, l26, hjl⟩
  intro h70
  obtain ⟨t, ht⟩ := List.head?_eq_some_iff.1 h70
  have := hD 0 70 (by rw [ht]; rfl)
  exact this

/-- What is read at the end. -/
theorem first_end {w : World} {g : Nat} {A : List UInt8} {L : List Ord} {ans hd t : List UInt8} {m r : Nat} (hA : A.length = 22)
    (ha : ans = A ++ fills hd 500 m L ++ (88 :: t ++ enc 500 4 ++ enc r 2 ++ [73])) (hh : hd.length = 7) (ht : t.length = 6) (hl : Lies w g 0 ans) :
    w.cell? ⟨g, 22 + 38 * L.length, none⟩ = some (.int .u8 88) ∧ Lies w g (22 + 38 * L.length + 11) (enc r 2) ∧ w.cell? ⟨g, 22 + 38 * L.length + 13, none⟩ = some (.int .u8 73) := by
  have hfl := fills_len hd hh 500 L m
  have hdr : ans.drop (22 + 38 * L.length) = 88 :: (t ++ (enc 500 4 ++ (enc r 2 ++ [73]))) := by
    rw [ha, ← hA, ← hfl, ← List.length_append, List.drop_left]
    simp
  have hD := hl.drop (22 + 38 * L.length)
  rw [hdr, Nat.zero_add] at hD
  have k7 := hD.drop 7
  rw [show List.drop 7 (88 :: (t ++ (enc 500 4 ++ (enc r 2 ++ [73])))) = enc 500 4 ++ (enc r 2 ++ [73]) from by rw [show (7 : Nat) = 6 + 1 from rfl, List.drop_succ_cons, List.drop_left' ht]] at k7
  have k11 := k7.drop 4
  rw [List.drop_left' (enc_length 500 4)] at k11
  refine ⟨hD 0 88 rfl, ?_, ?_⟩
  · have := k11.take 2
    rwa [List.take_left' (enc_length r 2)] at this
  · have k13 := k11.drop 2
    rw [List.drop_left' (enc_length r 2)] at k13
    exact k13 0 73 rfl

set_option maxRecDepth 100000 in
set_option maxHeartbeats 4000000 in
theorem first_any {At : World → Nat → (Nat → Prop) → St → Prop} (api : Api At) (v : Value) (l : List Int) (buy : Bool) (dd : UInt8) (limit : Int) (w : World) (hl : IntsAt w v l)
    (hsel : (buy = true ∧ dd = 83) ∨ (buy = false ∧ dd = 66)) (h1 : -9223372036854775808 ≤ limit) (h2 : limit ≤ 9223372036854775807) :
    Calls Try.prog 3 #[v, .bool buy, .int .i64 limit] w fun e w' => e = .returned (.bool true) ∧ Below w.heap.size w w' := by
  obtain ⟨rl, cl, rfl, hlen, hcs⟩ := hl
  have HCS := Hid.mk hcs
  clear hcs
  have hdd : dd = 66 ∨ dd = 83 := by rcases hsel with ⟨-, h⟩ | ⟨-, h⟩ <;> simp [h]
  have HDD := Hid.mk hdd
  have HST := Hid.mk (fst_start dd (prOf l))
  have HSEL := Hid.mk hsel
  clear hdd hsel
  go_enter Try.func3, Try.ntmps3
  go_wp2_with fail
  refine (open_any api 63 w (by decide) (by decide)).mono ?_
  rintro e w1 ⟨hb, b, G, vo, vt, rfl, hh, hF, hB⟩
  rw [show 1 + pick 63 64 = 64 from rfl] at hh
  have HN : Hid (House At w1 hb b G vo vt (openSt 64) [] [] ∧ (∀ k, G k → w.heap.size ≤ k) ∧ Below w.heap.size w w1) := And.intro hh (And.intro (fun k hk => hF k (.inr (.inl hk))) hB)
  clear hh hF hB
  go_upto_if 26 with (fail)
  go_cut [9, 10] from 20 (fun s9 s10 wc => s9 = .int .u8 (other dd).toNat ∧ s10 = .int .u8 dd.toNat ∧ Hid (House At wc hb b G vo vt (openSt 64) [] [] ∧ (∀ k, G k → w.heap.size ≤ k) ∧ Below w.heap.size w wc))
  case first =>
    rcases HSEL.out with ⟨rfl, rfl⟩ | ⟨rfl, rfl⟩
    all_goals
      go_wp2_with fail
      go_meet
    case rel => exact ⟨rfl, rfl, HN⟩
    case rel => exact ⟨rfl, rfl, HN⟩
  case rest =>
    obtain ⟨rfl, rfl, HM⟩ := hcut
    clear HN
    generalize hmm : other dd = mm at *
    have HMM := Hid.mk hmm
    clear hmm
    rename_i wc
    go_upto_block 0 with (fail)
    go_cut [11, 12] (fun n _ wl => ∃ (k : Nat) (G' : Nat → Prop) (st : St), n = .int .i64 k ∧ k ≤ l.length ∧ k ≤ 40 ∧ Hid (Fst dd (prOf l) k st ∧ House At wl hb b G' vo vt st [] [] ∧ (∀ k, G' k → w.heap.size ≤ k) ∧ Below w.heap.size w wl))
    case first =>
      go_wp2_with fail
      go_loopw [11] (fun n wl => ∃ (k : Nat) (G' : Nat → Prop) (st : St), n = .int .i64 k ∧ k ≤ l.length ∧ k ≤ 40 ∧ Hid (Fst dd (prOf l) k st ∧ House At wl hb b G' vo vt st [] [] ∧ (∀ k, G' k → w.heap.size ≤ k) ∧ Below w.heap.size w wl)) (fun n _ => 40 - (intOf n).toNat)
      case atStart => exact ⟨0, G, openSt 64, rfl, Nat.zero_le _, Nat.zero_le _, ⟨HST.out, HM.out.1, HM.out.2.1, HM.out.2.2⟩⟩
      case round =>
        obtain ⟨k, G', st, rfl, hkl, hk40, HR⟩ := hrel
        clear HM
        by_cases hgo : k < l.length ∧ k < 40
        · obtain ⟨hgo1, hgo2⟩ := hgo
          obtain ⟨cv, hcv⟩ : ∃ a, l[k]? = some a := ⟨_, List.getElem?_eq_getElem hgo1⟩
          obtain ⟨⟨cv1, cv2⟩, gc, oc, rfl, hgc, hcc⟩ := HCS.out k cv hcv
          have dcut := (HR.out.2.2.2.cell (p := ⟨gc, oc + k, none⟩) hgc).trans hcc
          have hpr : prOf l k = 1 + pick cv 10 := by unfold prOf; rw [List.getD_eq_getElem?_getD, hcv]; rfl
          have HPR := Hid.mk hpr
          have dc := (cells3 HR.out.2.1.cell).1
          have hblc : hb < wr.heap.size := heap_lt HR.out.2.1.cell
          have i1 : (0 : Int) ≤ (k : Int) := by omega
          have i2 : (k : Int) < (l.length : Int) := by omega
          have i3 : (k : Int) < 40 := by omega
          have hpk := pick_lt cv 10 (by decide)
          clear hcv hcc hpr
          go_wp2_with fail
          refine (pick_any cv 10 _ cv1 cv2 (by omega) (by omega)).mono ?_
          rintro e w' ⟨rfl, hw⟩
          replace hw := hw.symm
          subst hw
          rw [show (10 : Int).toNat = 10 from rfl]
          generalize pick cv 10 = pc at *
          have HP1 : Hid (prOf l k = 1 + pc) := HPR
          go_upto_region 12 with (fail)
          obtain ⟨P, hP⟩ : ∃ P : Nat, (1 : Int) + (pc : Int) = (P : Int) := ⟨1 + pc, by omega⟩
          rw [hP]
          have hP2 : P = 1 + pc := by omega
          have HP2 : Hid (prOf l k = P) := HP1.out.trans hP2.symm
          have hP3 : P ≤ 10 := by omega
          clear hP hP2 HP1 HPR dcut
          refine wp_region_parted 41 15 _ ?_
          refine wp_region_vals (by kernel_rfl) (by kernel_rfl) 15 rfl (rgV wr.heap.size [.val (.pointer (some ⟨hb, 0, none⟩)), .val (.pointer (some ⟨hb, 0, none⟩)), .val (.pointer (some ⟨hb, 0, none⟩)), .val (.pointer (some ⟨b, 0, none⟩)), .bytes ([69]), .val (.int .i64 (k : Nat)), .bytes (enc k 4), .val (.int .u8 dd.toNat), .bytes ([dd, 1]), .val (.int .i64 (P : Nat)), .bytes (enc P 2), .bytes (enc 1 2), .bytes ([68]), .rows (enterMsg k dd 1 P 1 68) 6, .own (enterMsg k dd 1 P 1 68)]) (Below wr.heap.size wr) rfl ⟨rfl, rfl, rfl, Nat.le_refl _, fun _ _ => rfl⟩ ?_ ?_
          · intro i o hi ho vals W hvl hR hdep K hK
            obtain ⟨x0, x1, x2, x3, x4, x5, x6, x7, x8, x9, x10, x11, x12, x13, x14, x15, rfl⟩ := list_len16 vals hvl
            have dW : W.cell? ⟨hb, 0, none⟩ = some (.pointer (some ⟨b, 0, none⟩)) := (hR.cell (p := ⟨hb, 0, none⟩) hblc).trans dc
            unfold RgFrame
            simp only [List.take_succ_cons, List.take_zero, List.drop_succ_cons, List.drop_zero, List.cons_append, List.nil_append]
            have hcase : i = 0 ∨ i = 1 ∨ i = 2 ∨ i = 3 ∨ i = 4 ∨ i = 5 ∨ i = 6 ∨ i = 7 ∨ i = 8 ∨ i = 9 ∨ i = 10 ∨ i = 11 ∨ i = 12 ∨ i = 13 ∨ i = 14 := by omega
            rcases hcase with rfl | rfl | rfl | rfl | rfl | rfl | rfl | rfl | rfl | rfl | rfl | rfl | rfl | rfl | rfl
            · obtain rfl := Option.some.inj ho
              clear dc hdep
              go_wp2_with fail
              exact hK (.pointer (some ⟨hb, 0, none⟩)) _ (rgV_mk rfl rfl) hR (fun _ _ h => h)
            · obtain rfl := Option.some.inj ho
              have e0 := hdep ⟨0, .data⟩ (by simp) _ rfl
              change x0 = _ at e0
              subst e0
              clear dc hdep
              go_wp2_with fail
              exact hK (.pointer (some ⟨hb, 0, none⟩)) _ (rgV_mk rfl rfl) hR (fun _ _ h => h)
            · obtain rfl := Option.some.inj ho
              have e1 := hdep ⟨1, .data⟩ (by simp) _ rfl
              change x1 = _ at e1
              subst e1
              clear dc hdep
              go_wp2_with fail
              exact hK (.pointer (some ⟨hb, 0, none⟩)) _ (rgV_mk rfl rfl) hR (fun _ _ h => h)
            · obtain rfl := Option.some.inj ho
              have e2 := hdep ⟨2, .data⟩ (by simp) _ rfl
              change x2 = _ at e2
              subst e2
              clear hdep
              go_wp2_with fail
              exact hK (.pointer (some ⟨b, 0, none⟩)) _ (rgV_mk rfl rfl) hR (fun _ _ h => h)
            · obtain rfl := Option.some.inj ho
              go_wp2_with fail
              exact hK _ _ (rgV_mk rfl ⟨W.heap.size, rfl, by rw [heap_alloc, if_pos rfl] <;> (rfl)⟩) (hR.alloc hR.size _) (rgV_keep ((Below.refl _ _).alloc (Nat.le_refl _) _))
            · obtain rfl := Option.some.inj ho
              clear dc hdep
              go_wp2_with fail
              exact hK (.int .i64 (k : Nat)) _ (rgV_mk rfl rfl) hR (fun _ _ h => h)
            · obtain rfl := Option.some.inj ho
              have e5 := hdep ⟨5, .data⟩ (by simp) _ rfl
              change x5 = _ at e5
              subst e5
              go_wp2_with (go_at_call 14; refine (num_any _ _ _ (by omega) (by omega) (by decide) (by decide)).mono ?_; rintro e w' ⟨rfl, rfl⟩)
              exact hK _ _ (rgV_mk rfl ⟨W.heap.size, rfl, by rw [heap_alloc, if_pos rfl] <;> rfl⟩) (hR.alloc hR.size _) (rgV_keep ((Below.refl _ _).alloc (Nat.le_refl _) _))
            · obtain rfl := Option.some.inj ho
              clear dc hdep
              go_wp2_with fail
              exact hK (.int .u8 dd.toNat) _ (rgV_mk rfl rfl) hR (fun _ _ h => h)
            · obtain rfl := Option.some.inj ho
              have e7 := hdep ⟨7, .data⟩ (by simp) _ rfl
              change x7 = _ at e7
              subst e7
              go_wp2_with fail
              exact hK _ _ (rgV_mk rfl ⟨W.heap.size, rfl, by rw [heap_alloc, if_pos rfl] <;> (rfl)⟩) (hR.alloc hR.size _) (rgV_keep ((Below.refl _ _).alloc (Nat.le_refl _) _))
            · obtain rfl := Option.some.inj ho
              clear dc hdep
              go_wp2_with fail
              exact hK (.int .i64 (P : Nat)) _ (rgV_mk rfl rfl) hR (fun _ _ h => h)
            · obtain rfl := Option.some.inj ho
              have e9 := hdep ⟨9, .data⟩ (by simp) _ rfl
              change x9 = _ at e9
              subst e9
              go_wp2_with (go_at_call 14; refine (num_any _ _ _ (by omega) (by omega) (by decide) (by decide)).mono ?_; rintro e w' ⟨rfl, rfl⟩)
              exact hK _ _ (rgV_mk rfl ⟨W.heap.size, rfl, by rw [heap_alloc, if_pos rfl] <;> rfl⟩) (hR.alloc hR.size _) (rgV_keep ((Below.refl _ _).alloc (Nat.le_refl _) _))
            · obtain rfl := Option.some.inj ho
              go_wp2_with (go_at_call 14; refine (num_any _ _ _ (by omega) (by omega) (by decide) (by decide)).mono ?_; rintro e w' ⟨rfl, rfl⟩)
              exact hK _ _ (rgV_mk rfl ⟨W.heap.size, rfl, by rw [heap_alloc, if_pos rfl] <;> rfl⟩) (hR.alloc hR.size _) (rgV_keep ((Below.refl _ _).alloc (Nat.le_refl _) _))
            · obtain rfl := Option.some.inj ho
              go_wp2_with fail
              exact hK _ _ (rgV_mk rfl ⟨W.heap.size, rfl, by rw [heap_alloc, if_pos rfl] <;> (rfl)⟩) (hR.alloc hR.size _) (rgV_keep ((Below.refl _ _).alloc (Nat.le_refl _) _))
            · obtain rfl := Option.some.inj ho
              have e4 := hdep ⟨4, .data⟩ (by simp) _ rfl
              obtain ⟨g4, (e4 : x4 = _), hg4⟩ := e4
              subst e4
              have e6 := hdep ⟨6, .data⟩ (by simp) _ rfl
              obtain ⟨g6, (e6 : x6 = _), hg6⟩ := e6
              subst e6
              have e8 := hdep ⟨8, .data⟩ (by simp) _ rfl
              obtain ⟨g8, (e8 : x8 = _), hg8⟩ := e8
              subst e8
              have e10 := hdep ⟨10, .data⟩ (by simp) _ rfl
              obtain ⟨g10, (e10 : x10 = _), hg10⟩ := e10
              subst e10
              have e11 := hdep ⟨11, .data⟩ (by simp) _ rfl
              obtain ⟨g11, (e11 : x11 = _), hg11⟩ := e11
              subst e11
              have e12 := hdep ⟨12, .data⟩ (by simp) _ rfl
              obtain ⟨g12, (e12 : x12 = _), hg12⟩ := e12
              subst e12
              go_wp2_with fail
              refine hK _ _ (rgV_mk rfl ⟨W.heap.size, [⟨g4, 0, 1, [69]⟩, ⟨g6, 0, 4, enc k 4⟩, ⟨g8, 0, 2, [dd, 1]⟩, ⟨g10, 0, 2, enc P 2⟩, ⟨g11, 0, 2, enc 1 2⟩, ⟨g12, 0, 1, [68]⟩], rfl, rfl, by rw [heap_alloc, if_pos rfl] <;> rfl, ?_, rfl⟩) (hR.alloc hR.size _) (rgV_keep ((Below.refl _ _).alloc (Nat.le_refl _) _))
              intro p hp
              simp only [List.mem_cons, List.not_mem_nil, or_false] at hp
              rcases hp with rfl | rfl | rfl | rfl | rfl | rfl
              · exact ⟨rfl, by rw [heap_alloc, if_neg (Nat.ne_of_lt (heap_lt hg4))]; exact hg4⟩
              · exact ⟨rfl, by rw [heap_alloc, if_neg (Nat.ne_of_lt (heap_lt hg6))]; exact hg6⟩
              · exact ⟨rfl, by rw [heap_alloc, if_neg (Nat.ne_of_lt (heap_lt hg8))]; exact hg8⟩
              · exact ⟨rfl, by rw [heap_alloc, if_neg (Nat.ne_of_lt (heap_lt hg10))]; exact hg10⟩
              · exact ⟨rfl, by rw [heap_alloc, if_neg (Nat.ne_of_lt (heap_lt hg11))]; exact hg11⟩
              · exact ⟨rfl, by rw [heap_alloc, if_neg (Nat.ne_of_lt (heap_lt hg12))]; exact hg12⟩
            · obtain rfl := Option.some.inj ho
              have e13 := hdep ⟨13, .data⟩ (by simp) _ rfl
              obtain ⟨bl, ps, (e13 : x13 = _), hn, hrow, hps, hcat⟩ := e13
              subst e13
              go_wp2_with (go_at_call 13; refine (row_lit bl ps 28 W 6 hn hrow hps (by decide) (by rw [hcat]; simp [enterMsg, enc_length])).mono ?_; rintro e w' ⟨v', rfl, hov, hb'⟩)
              exact hK _ _ (rgV_mk rfl ((hov.cast hcat).base hR.size)) (hR.trans (hb'.mono hR.size)) (rgV_keep hb')
          · intro o ho vals W hvl hR hdep K hK
            obtain ⟨x0, x1, x2, x3, x4, x5, x6, x7, x8, x9, x10, x11, x12, x13, x14, x15, rfl⟩ := list_len16 vals hvl
            obtain rfl := Option.some.inj ho
            have e3 := hdep 3 (by decide) _ rfl
            change x3 = _ at e3
            subst e3
            have e14 : Own W wr.heap.size x14 (enterMsg k dd 1 P 1 68) := hdep 14 (by decide) _ rfl
            have hF1 := fst_step HR.out.1 HDD.out (by omega) (prOf_le l k).1 (prOf_le l k).2
            rw [HP2.out] at hF1
            have hh1 := House.below' api HR.out.2.1 hR
            have hGl := api.lt HR.out.2.1.at_
            have ha1 := hF1.ans
            have ht1 := hF1.tape
            have HF1 := Hid.mk hF1
            have HH1 := Hid.mk (And.intro hh1 hR)
            have HRD : Hid (Rd W G' x14 (enterMsg k dd 1 P 1 68)) := e14.rd (fun g hg h => by have := hGl _ h; have := (e14.lt g hg).1; omega)
            have HRM : Hid ((st.feed (enterMsg k dd 1 P 1 68)).ans.length ≤ big ∧ (st.feed (enterMsg k dd 1 P 1 68)).tape.length ≤ big) := by
              rw [show big = 70368744177664 from rfl]
              exact ⟨by omega, by omega⟩
            unfold RgFrame
            simp only [List.take_succ_cons, List.take_zero, List.drop_succ_cons, List.drop_zero, List.cons_append, List.nil_append]
            clear hdep hF1 hh1 hR e14 dc hGl ha1 ht1
            go_wp2_with fail
            refine (api.feed b G' st x14 _ W HH1.out.1.at_ HRD.out HRM.out.1 HRM.out.2).mono ?_
            rintro e w3 ⟨G3, rfl, hat3, hG3, hfr3⟩
            have hh3 := HH1.out.1.step hat3 hfr3 hG3
            have hB3 : Below w.heap.size w w3 := (HR.out.2.2.2.trans (HH1.out.2.mono HR.out.2.2.2.size)).trans (hfr3.below (Nat.le_trans HR.out.2.2.2.size HH1.out.2.size) HR.out.2.2.1)
            have hG3' : ∀ k, G3 k → w.heap.size ≤ k := fun k hk => by
              rcases hG3 k hk with h | h
              · exact HR.out.2.2.1 k h
              · have := HR.out.2.2.2.size; have := HH1.out.2.size; omega
            have HS3 := Hid.mk (And.intro HF1.out (And.intro hh3 (And.intro hG3' hB3)))
            clear hat3 hG3 hfr3 hh3 hB3 hG3' HH1 HRD HRM HF1
            refine hK _ _ ?_
            clear hK
            go_wp2_with fail
            exact ⟨⟨k + 1, G3, _, by go_num, by omega, by omega, HS3⟩, by simp [intOf]; omega⟩

        · have hstop : ¬ (k : Int) < (l.length : Int) ∨ ((k : Int) < (l.length : Int) ∧ ¬ (k : Int) < 40) := by omega
          clear hgo
          rcases hstop with s1 | ⟨s1, s2⟩
          all_goals
            go_wp2_with fail
            go_meet
          case rel => exact ⟨k, G', st, rfl, hkl, hk40, HR⟩
          case rel => exact ⟨k, G', st, rfl, hkl, hk40, HR⟩
    case rest =>
      obtain ⟨k, G', st, rfl, hkl, hk40, HR⟩ := hcut
      clear HM
      have dc := (cells3 HR.out.2.1.cell).1
      have i1 : (0 : Int) ≤ (k : Int) := by omega
      have hpl := pick_lt limit 10 (by decide)
      go_wp2_with fail
      refine (api.answers b G' _ _ HR.out.2.1.at_).mono ?_
      rintro e w3 ⟨v3, G3, rfl, ho3, hat3, hG3, hv3, hfr3⟩
      obtain ⟨r3, c3, rfl, -, -⟩ := ho3.len
      have hh3 := HR.out.2.1.step hat3 hfr3 hG3
      have hB3 : Below w.heap.size w w3 := HR.out.2.2.2.trans (hfr3.below HR.out.2.2.2.size HR.out.2.2.1)
      have hG3' : ∀ k, G3 k → w.heap.size ≤ k := fun k hk => by
        rcases hG3 k hk with h | h
        · exact HR.out.2.2.1 k h
        · have := HR.out.2.2.2.size; omega
      have dc3 := (cells3 hh3.cell).1
      have HS3 := Hid.mk (And.intro HR.out.1.told (And.intro hh3 (And.intro hG3' hB3)))
      clear hat3 hG3 hfr3 hh3 hB3 hG3' ho3 hv3 dc HR
      go_wp2_with fail
      refine (pick_any limit 10 _ h1 h2 (by omega) (by omega)).mono ?_
      rintro e w' ⟨rfl, hw⟩
      replace hw := hw.symm
      subst hw
      rw [show (10 : Int).toNat = 10 from rfl]
      generalize pick limit 10 = pl at *
      go_upto_region 16 with (fail)
      obtain ⟨Q, hQ⟩ : ∃ Q : Nat, (1 : Int) + (pl : Int) = (Q : Int) := ⟨1 + pl, by omega⟩
      rw [hQ]
      have hQ1 : 1 ≤ Q := by omega
      have hQ2 : Q ≤ 10 := by omega
      have dc := dc3
      have hblc : hb < w3.heap.size := heap_lt HS3.out.2.1.cell
      clear hQ dc3 hpl
      refine wp_region_parted 67 14 _ ?_
      refine wp_region_vals (by kernel_rfl) (by kernel_rfl) 14 rfl (rgV w3.heap.size [.val (.pointer (some ⟨hb, 0, none⟩)), .val (.pointer (some ⟨hb, 0, none⟩)), .val (.pointer (some ⟨hb, 0, none⟩)), .val (.pointer (some ⟨b, 0, none⟩)), .bytes ([69]), .bytes (enc 500 4), .val (.int .u8 mm.toNat), .bytes ([mm, 1]), .val (.int .i64 (Q : Nat)), .bytes (enc Q 2), .bytes (enc 9999 2), .bytes ([73]), .rows (enterMsg 500 mm 1 Q 9999 73) 6, .own (enterMsg 500 mm 1 Q 9999 73)]) (Below w3.heap.size w3) rfl ⟨rfl, rfl, rfl, Nat.le_refl _, fun _ _ => rfl⟩ ?_ ?_
      · intro i o hi ho vals W hvl hR hdep K hK
        obtain ⟨x0, x1, x2, x3, x4, x5, x6, x7, x8, x9, x10, x11, x12, x13, x14, rfl⟩ := list_len15 vals hvl
        have dW : W.cell? ⟨hb, 0, none⟩ = some (.pointer (some ⟨b, 0, none⟩)) := (hR.cell (p := ⟨hb, 0, none⟩) hblc).trans dc
        unfold RgFrame
        simp only [List.take_succ_cons, List.take_zero, List.drop_succ_cons, List.drop_zero, List.cons_append, List.nil_append]
        have hcase : i = 0 ∨ i = 1 ∨ i = 2 ∨ i = 3 ∨ i = 4 ∨ i = 5 ∨ i = 6 ∨ i = 7 ∨ i = 8 ∨ i = 9 ∨ i = 10 ∨ i = 11 ∨ i = 12 ∨ i = 13 := by omega
        rcases hcase with rfl | rfl | rfl | rfl | rfl | rfl | rfl | rfl | rfl | rfl | rfl | rfl | rfl | rfl
        · obtain rfl := Option.some.inj ho
          clear dc hdep
          go_wp2_with fail
          exact hK (.pointer (some ⟨hb, 0, none⟩)) _ (rgV_mk rfl rfl) hR (fun _ _ h => h)
        · obtain rfl := Option.some.inj ho
          have e0 := hdep ⟨0, .data⟩ (by simp) _ rfl
          change x0 = _ at e0
          subst e0
          clear dc hdep
          go_wp2_with fail
          exact hK (.pointer (some ⟨hb, 0, none⟩)) _ (rgV_mk rfl rfl) hR (fun _ _ h => h)
        · obtain rfl := Option.some.inj ho
          have e1 := hdep ⟨1, .data⟩ (by simp) _ rfl
          change x1 = _ at e1
          subst e1
          clear dc hdep
          go_wp2_with fail
          exact hK (.pointer (some ⟨hb, 0, none⟩)) _ (rgV_mk rfl rfl) hR (fun _ _ h => h)
        · obtain rfl := Option.some.inj ho
          have e2 := hdep ⟨2, .data⟩ (by simp) _ rfl
          change x2 = _ at e2
          subst e2
          clear hdep
          go_wp2_with fail
          exact hK (.pointer (some ⟨b, 0, none⟩)) _ (rgV_mk rfl rfl) hR (fun _ _ h => h)
        · obtain rfl := Option.some.inj ho
          go_wp2_with fail
          exact hK _ _ (rgV_mk rfl ⟨W.heap.size, rfl, by rw [heap_alloc, if_pos rfl] <;> (rfl)⟩) (hR.alloc hR.size _) (rgV_keep ((Below.refl _ _).alloc (Nat.le_refl _) _))
        · obtain rfl := Option.some.inj ho
          go_wp2_with (go_at_call 14; refine (num_any _ _ _ (by omega) (by omega) (by decide) (by decide)).mono ?_; rintro e w' ⟨rfl, rfl⟩)
          exact hK _ _ (rgV_mk rfl ⟨W.heap.size, rfl, by rw [heap_alloc, if_pos rfl] <;> rfl⟩) (hR.alloc hR.size _) (rgV_keep ((Below.refl _ _).alloc (Nat.le_refl _) _))
        · obtain rfl := Option.some.inj ho
          clear dc hdep
          go_wp2_with fail
          exact hK (.int .u8 mm.toNat) _ (rgV_mk rfl rfl) hR (fun _ _ h => h)
        · obtain rfl := Option.some.inj ho
          have e6 := hdep ⟨6, .data⟩ (by simp) _ rfl
          change x6 = _ at e6
          subst e6
          go_wp2_with fail
          exact hK _ _ (rgV_mk rfl ⟨W.heap.size, rfl, by rw [heap_alloc, if_pos rfl] <;> (rfl)⟩) (hR.alloc hR.size _) (rgV_keep ((Below.refl _ _).alloc (Nat.le_refl _) _))
        · obtain rfl := Option.some.inj ho
          clear dc hdep
          go_wp2_with fail
          exact hK (.int .i64 (Q : Nat)) _ (rgV_mk rfl rfl) hR (fun _ _ h => h)
        · obtain rfl := Option.some.inj ho
          have e8 := hdep ⟨8, .data⟩ (by simp) _ rfl
          change x8 = _ at e8
          subst e8
          go_wp2_with (go_at_call 14; refine (num_any _ _ _ (by omega) (by omega) (by decide) (by decide)).mono ?_; rintro e w' ⟨rfl, rfl⟩)
          exact hK _ _ (rgV_mk rfl ⟨W.heap.size, rfl, by rw [heap_alloc, if_pos rfl] <;> rfl⟩) (hR.alloc hR.size _) (rgV_keep ((Below.refl _ _).alloc (Nat.le_refl _) _))
        · obtain rfl := Option.some.inj ho
          go_wp2_with (go_at_call 14; refine (num_any _ _ _ (by omega) (by omega) (by decide) (by decide)).mono ?_; rintro e w' ⟨rfl, rfl⟩)
          exact hK _ _ (rgV_mk rfl ⟨W.heap.size, rfl, by rw [heap_alloc, if_pos rfl] <;> rfl⟩) (hR.alloc hR.size _) (rgV_keep ((Below.refl _ _).alloc (Nat.le_refl _) _))
        · obtain rfl := Option.some.inj ho
          go_wp2_with fail
          exact hK _ _ (rgV_mk rfl ⟨W.heap.size, rfl, by rw [heap_alloc, if_pos rfl] <;> (rfl)⟩) (hR.alloc hR.size _) (rgV_keep ((Below.refl _ _).alloc (Nat.le_refl _) _))
        · obtain rfl := Option.some.inj ho
          have e4 := hdep ⟨4, .data⟩ (by simp) _ rfl
          obtain ⟨g4, (e4 : x4 = _), hg4⟩ := e4
          subst e4
          have e5 := hdep ⟨5, .data⟩ (by simp) _ rfl
          obtain ⟨g5, (e5 : x5 = _), hg5⟩ := e5
          subst e5
          have e7 := hdep ⟨7, .data⟩ (by simp) _ rfl
          obtain ⟨g7, (e7 : x7 = _), hg7⟩ := e7
          subst e7
          have e9 := hdep ⟨9, .data⟩ (by simp) _ rfl
          obtain ⟨g9, (e9 : x9 = _), hg9⟩ := e9
          subst e9
          have e10 := hdep ⟨10, .data⟩ (by simp) _ rfl
          obtain ⟨g10, (e10 : x10 = _), hg10⟩ := e10
          subst e10
          have e11 := hdep ⟨11, .data⟩ (by simp) _ rfl
          obtain ⟨g11, (e11 : x11 = _), hg11⟩ := e11
          subst e11
          go_wp2_with fail
          refine hK _ _ (rgV_mk rfl ⟨W.heap.size, [⟨g4, 0, 1, [69]⟩, ⟨g5, 0, 4, enc 500 4⟩, ⟨g7, 0, 2, [mm, 1]⟩, ⟨g9, 0, 2, enc Q 2⟩, ⟨g10, 0, 2, enc 9999 2⟩, ⟨g11, 0, 1, [73]⟩], rfl, rfl, by rw [heap_alloc, if_pos rfl] <;> rfl, ?_, rfl⟩) (hR.alloc hR.size _) (rgV_keep ((Below.refl _ _).alloc (Nat.le_refl _) _))
          intro p hp
          simp only [List.mem_cons, List.not_mem_nil, or_false] at hp
          rcases hp with rfl | rfl | rfl | rfl | rfl | rfl
          · exact ⟨rfl, by rw [heap_alloc, if_neg (Nat.ne_of_lt (heap_lt hg4))]; exact hg4⟩
          · exact ⟨rfl, by rw [heap_alloc, if_neg (Nat.ne_of_lt (heap_lt hg5))]; exact hg5⟩
          · exact ⟨rfl, by rw [heap_alloc, if_neg (Nat.ne_of_lt (heap_lt hg7))]; exact hg7⟩
          · exact ⟨rfl, by rw [heap_alloc, if_neg (Nat.ne_of_lt (heap_lt hg9))]; exact hg9⟩
          · exact ⟨rfl, by rw [heap_alloc, if_neg (Nat.ne_of_lt (heap_lt hg10))]; exact hg10⟩
          · exact ⟨rfl, by rw [heap_alloc, if_neg (Nat.ne_of_lt (heap_lt hg11))]; exact hg11⟩
        · obtain rfl := Option.some.inj ho
          have e12 := hdep ⟨12, .data⟩ (by simp) _ rfl
          obtain ⟨bl, ps, (e12 : x12 = _), hn, hrow, hps, hcat⟩ := e12
          subst e12
          go_wp2_with (go_at_call 13; refine (row_lit bl ps 28 W 6 hn hrow hps (by decide) (by rw [hcat]; simp [enterMsg, enc_length])).mono ?_; rintro e w' ⟨v', rfl, hov, hb'⟩)
          exact hK _ _ (rgV_mk rfl ((hov.cast hcat).base hR.size)) (hR.trans (hb'.mono hR.size)) (rgV_keep hb')
      · intro o ho vals W hvl hR hdep K hK
        obtain ⟨x0, x1, x2, x3, x4, x5, x6, x7, x8, x9, x10, x11, x12, x13, x14, rfl⟩ := list_len15 vals hvl
        obtain rfl := Option.some.inj ho
        have e3 := hdep 3 (by decide) _ rfl
        change x3 = _ at e3
        subst e3
        have e13 : Own W w3.heap.size x13 (enterMsg 500 mm 1 Q 9999 73) := hdep 13 (by decide) _ rfl
        have hfl := first_last HS3.out.1 HDD.out hk40 Q hQ1 hQ2 rfl
        rw [HMM.out] at hfl
        obtain ⟨A, L, mt, hA22, hLm, hLn, hans, hrest, htape⟩ := hfl
        generalize hsF : st.told.feed (enterMsg 500 mm 1 Q 9999 73) = sF at *
        have hh1 := House.below' api HS3.out.2.1 hR
        have hGl := api.lt HS3.out.2.1.at_
        have HSF := Hid.mk hsF
        have HH1 := Hid.mk (And.intro hh1 hR)
        have HRD : Hid (Rd W G3 x13 (enterMsg 500 mm 1 Q 9999 73)) := e13.rd (fun g hg h => by have := hGl _ h; have := (e13.lt g hg).1; omega)
        have hhd : (st.told.head 70).length = 7 := head_len _ _
        have hlA : sF.ans.length = 22 + 38 * L.length + 14 := by
          rw [hans]
          simp only [List.length_append, hA22, fills_len _ hhd, head_len, enc_length, List.length_cons, List.length_nil]
        have HRM : Hid (sF.ans.length ≤ big ∧ sF.tape.length ≤ big) := by
          rw [show big = 70368744177664 from rfl]
          exact ⟨by omega, by omega⟩
        have HANS := Hid.mk (And.intro hA22 (And.intro hLm (And.intro hans (And.intro hrest hlA))))
        unfold RgFrame
        simp only [List.take_succ_cons, List.take_zero, List.drop_succ_cons, List.drop_zero, List.cons_append, List.nil_append]
        clear hdep hh1 hR e13 dc hGl hsF hA22 hLm hans hrest htape hhd
        go_wp2_with fail
        refine (api.feed b G3 st.told x13 _ W HH1.out.1.at_ HRD.out (by rw [HSF.out]; exact HRM.out.1) (by rw [HSF.out]; exact HRM.out.2)).mono ?_
        rintro e w4 ⟨G4, rfl, hat4, hG4, hfr4⟩
        rw [HSF.out] at hat4
        have hh4 := HH1.out.1.step hat4 hfr4 hG4
        have hB4 : Below w.heap.size w w4 := (HS3.out.2.2.2.trans (HH1.out.2.mono HS3.out.2.2.2.size)).trans (hfr4.below (Nat.le_trans HS3.out.2.2.2.size HH1.out.2.size) HS3.out.2.2.1)
        have hG4' : ∀ k, G4 k → w.heap.size ≤ k := fun k hk => by
          rcases hG4 k hk with h | h
          · exact HS3.out.2.2.1 k h
          · have := HS3.out.2.2.2.size; have := HH1.out.2.size; omega
        have dc := (cells3 hh4.cell).1
        have HS4 := Hid.mk (And.intro hh4 (And.intro hG4' hB4))
        clear hat4 hG4 hfr4 hh4 hB4 hG4' HH1 HRD HRM
        refine hK _ _ ?_
        clear hK
        go_wp2_with fail
        refine (api.answers b G4 _ _ HS4.out.1.at_).mono ?_
        rintro e w5 ⟨v5, G5, rfl, ho5, hat5, hG5, hv5, hfr5⟩
        obtain ⟨r5, c5, rfl, hc51, hc52⟩ := ho5.len
        have hh5 := HS4.out.1.step hat5 hfr5 hG5
        have hB5 : Below w.heap.size w w5 := HS4.out.2.2.trans (hfr5.below HS4.out.2.2.size HS4.out.2.1)
        have HS5 := Hid.mk (And.intro hh5 (And.intro hB5 (And.intro ho5 hv5)))
        have dc5 := (cells3 hh5.cell).1
        clear hat5 hG5 hfr5 hh5 hB5 ho5 hv5 dc
        obtain ⟨g5, hr5, hg5, hLi⟩ : ∃ g5, r5 = some ⟨g5, 0, none⟩ ∧ g5 < w5.heap.size ∧ Lies w5 g5 0 sF.ans := by
          obtain ⟨-, -, ho5, -⟩ := HS5.out
          rcases ho5.2 with ⟨h, h'⟩ | ⟨g', cap', cur', h, -⟩
          · rw [hlA] at h'; omega
          · simp only [Value.slice.injEq] at h
            obtain ⟨h, -, -⟩ := h
            subst h
            rcases ho5.rd (F := fun _ => False) (fun _ _ h => h) with ⟨h, -⟩ | ⟨g, o, cap, h, hl, -, -, -, hgl⟩
            · simp at h
            · simp only [Value.slice.injEq, Option.some.injEq, Addr.mk.injEq] at h
              obtain ⟨⟨rfl, rfl, -⟩, -⟩ := h
              exact ⟨g', rfl, hgl, hl⟩
        subst hr5
        have HLI := Hid.mk (And.intro hg5 hLi)
        rw [hlA]
        rw [hlA] at hc51
        have hc53 : ((22 + 38 * L.length + 14 : Nat) : Int) ≤ (c5 : Int) := by omega
        have hc54 : (c5 : Int) ≤ 9223372036854775807 := by unfold maxLen at hc52; omega
        have hL40 : L.length ≤ 40 := by omega
        obtain ⟨LA, hLA⟩ : ∃ LA : Nat, 22 + 38 * L.length + 14 = LA := ⟨_, rfl⟩
        rw [hLA] at hc53 ⊢
        have HLA := Hid.mk hLA
        have hLA2 : LA ≤ 1556 := by omega
        clear hg5 hLi hLA hc51 hc52
        go_wp2_with fail
        go_loopw [15, 16] (fun at_ k' wl => ∃ kk : Nat, kk ≤ 10 ∧ k' = .int .i64 kk ∧ at_ = .int .i64 ((22 + 38 * (firstPre dd (prOf l) Q k kk 0).length : Nat) : Int) ∧ Hid (Below w5.heap.size w5 wl)) (fun _ k' _ => 10 - (intOf k').toNat)
        case atStart => exact ⟨0, Nat.zero_le _, rfl, by rw [firstPre_zero]; rfl, Below.refl _ _⟩
        case round =>
          obtain ⟨kk, hkk, rfl, rfl, HWL⟩ := hrel
          by_cases hk10 : kk < 10
          · have j1 : (kk : Int) < 10 := by omega
            have j2 : (0 : Int) ≤ (kk : Int) := by omega
            generalize hat0 : 22 + 38 * (firstPre dd (prOf l) Q k kk 0).length = at0 at *
            have HA0 := Hid.mk hat0
            clear hat0
            obtain ⟨P, hP1, hP2, HPP⟩ : ∃ P : Nat, 1 ≤ P ∧ P ≤ 10 ∧ Hid (firstPrice dd kk = P ∧ ((buy = true ∧ (1 : Int) + kk = P ∧ ((firstIn dd Q P = true ∧ ¬ (P : Int) > (Q : Int)) ∨ (¬ firstIn dd Q P = true ∧ (P : Int) > (Q : Int)))) ∨ (buy = false ∧ (10 : Int) - kk = P ∧ ((firstIn dd Q P = true ∧ ¬ (P : Int) < (Q : Int)) ∨ (¬ firstIn dd Q P = true ∧ (P : Int) < (Q : Int)))))) := by
              rcases HSEL.out with ⟨rfl, rfl⟩ | ⟨rfl, rfl⟩
              · refine ⟨kk + 1, by omega, by omega, ⟨rfl, .inl ⟨rfl, by omega, ?_⟩⟩⟩
                have e : firstIn 83 Q (kk + 1) = decide (kk + 1 ≤ Q) := rfl
                rw [e, decide_eq_true_eq]
                omega
              · refine ⟨10 - kk, by omega, by omega, ⟨rfl, .inr ⟨rfl, by omega, ?_⟩⟩⟩
                have e : firstIn 66 Q (10 - kk) = decide (Q ≤ 10 - kk) := rfl
                rw [e, decide_eq_true_eq]
                omega
            rcases HPP.out with ⟨hfp, ⟨rfl, hPe, hio⟩ | ⟨rfl, hPe, hio⟩⟩
            all_goals
              go_wp2_with fail
              have HFP := Hid.mk (And.intro hfp hio)
              clear hPe HPP hfp hio
              go_loopw [15, 18] (fun at_ i' wl => ∃ ii : Nat, ii ≤ k ∧ i' = .int .i64 ii ∧ at_ = .int .i64 ((22 + 38 * (firstPre dd (prOf l) Q k kk ii).length : Nat) : Int) ∧ Hid (Below w5.heap.size w5 wl)) (fun _ i' _ => k - (intOf i').toNat)
              case atStart => exact ⟨0, Nat.zero_le _, rfl, by rw [HA0.out], HWL⟩
              case round =>
                clear HWL HA0
                obtain ⟨ii, hii, rfl, rfl, HWL⟩ := hrel
                by_cases hik : ii < k
                · obtain ⟨cv, hcv⟩ : ∃ a, l[ii]? = some a := ⟨_, List.getElem?_eq_getElem (by omega)⟩
                  obtain ⟨⟨cv1, cv2⟩, gc, oc, rfl, hgc, hcc⟩ := HCS.out ii cv hcv
                  have dcut := ((HS5.out.2.1.trans (HWL.out.mono HS5.out.2.1.size)).cell (p := ⟨gc, oc + ii, none⟩) hgc).trans hcc
                  have hpr : prOf l ii = 1 + pick cv 10 := by unfold prOf; rw [List.getD_eq_getElem?_getD, hcv]; rfl
                  have HPR := Hid.mk hpr
                  have hpk := pick_lt cv 10 (by decide)
                  have i2 : (0 : Int) ≤ (ii : Int) := by omega
                  have i3 : (ii : Int) < (l.length : Int) := by omega
                  have i4 : (ii : Int) < (k : Int) := by omega
                  generalize hat1 : 22 + 38 * (firstPre dd (prOf l) Q k kk ii).length = at1 at *
                  have HA1 := Hid.mk hat1
                  clear hcv hcc hpr hat1
                  go_wp2_with fail
                  refine (pick_any cv 10 _ cv1 cv2 (by omega) (by omega)).mono ?_
                  rintro e w' ⟨rfl, hw⟩
                  replace hw := hw.symm
                  subst hw
                  rw [show (10 : Int).toNat = 10 from rfl]
                  generalize pick cv 10 = pc at *
                  by_cases hq : 1 + pc = P
                  · have hq1 : (1 : Int) + (pc : Int) = (P : Int) := by omega
                    rcases HFP.out.2 with ⟨hin, hlm⟩ | ⟨hin, hlm⟩
                    · have HQ : Hid ((firstAll dd (prOf l) Q k)[(firstPre dd (prOf l) Q k kk ii).length]? = some (ii, P) ∧ firstPre dd (prOf l) Q k kk (ii + 1) = firstPre dd (prOf l) Q k kk ii ++ [(ii, P)]) := by
                        have e1 := firstPre_get dd (prOf l) Q k kk ii hk10 hik (by rw [HFP.out.1]; exact hin) (by rw [HFP.out.1, HPR.out]; exact hq)
                        have e2 := firstPre_take dd (prOf l) Q k kk ii (by rw [HFP.out.1]; exact hin) (by rw [HFP.out.1, HPR.out]; exact hq)
                        rw [HFP.out.1] at e1 e2
                        exact ⟨e1, e2⟩
                      have HAT := first_read (w := wr) HANS.out.1 HANS.out.2.1 HANS.out.2.2.1 (head_len _ _) HQ.out.1 (HLI.out.2.keep (HWL.out.block g5 HLI.out.1))
                      rw [HA1.out] at HAT
                      obtain ⟨a0, hv1, hv2, hv3, hjl⟩ := HAT
                      replace a0 := a0 rfl
                      have HV := Hid.mk (And.intro hv1 (And.intro hv2 hv3))
                      have q1 : (at1 : Int) + 38 ≤ (LA : Int) := by have := HLA.out; have := HA1.out; omega
                      have q2 : (0 : Int) ≤ (at1 : Int) := by omega
                      clear hv1 hv2 hv3 hin
                      go_wp2_with fail
                      have hv := val_any g5 (at1 + 7) (c5 - (at1 + 7)) (enc ii 4) wr (by rw [enc_length]; omega) HV.out.1
                      rw [enc_length, show num (enc ii 4) 0 = ii from by rw [num_enc]; exact Nat.mod_eq_of_lt (by omega)] at hv
                      refine hv.mono ?_
                      rintro e w' ⟨rfl, hw⟩
                      replace hw := hw.symm
                      subst hw
                      clear hv
                      go_wp2_with fail
                      have hv := val_any g5 (at1 + 13) (c5 - (at1 + 13)) (enc P 2) wr (by rw [enc_length]; omega) HV.out.2.1
                      rw [enc_length, show num (enc P 2) 0 = P from by rw [num_enc]; exact Nat.mod_eq_of_lt (by omega)] at hv
                      refine hv.mono ?_
                      rintro e w' ⟨rfl, hw⟩
                      replace hw := hw.symm
                      subst hw
                      clear hv
                      go_wp2_with fail
                      have hv := val_any g5 (at1 + 26) (c5 - (at1 + 26)) (enc 500 4) wr (by rw [enc_length]; omega) HV.out.2.2
                      rw [enc_length, show num (enc 500 4) 0 = 500 from by decide] at hv
                      refine hv.mono ?_
                      rintro e w' ⟨rfl, hw⟩
                      replace hw := hw.symm
                      subst hw
                      clear hv
                      go_wp2_with fail
                      exact ⟨⟨ii + 1, by omega, by go_num, by rw [HQ.out.2, List.length_append, ← HA1.out]; simp; omega, HWL⟩, by simp [intOf]; omega⟩
                    · go_wp2_with fail
                      exact ⟨⟨ii + 1, by omega, by go_num, by rw [firstPre_skip dd (prOf l) Q k kk ii (fun h => hin (by have := h.1; rw [HFP.out.1] at this; exact this)), HA1.out], HWL⟩, by simp [intOf]; omega⟩
                  · have hq1 : ((1 + (pc : Int)) == (P : Int)) = false := by rw [beq_eq_false_iff_ne]; omega
                    go_wp2_with fail
                    exact ⟨⟨ii + 1, by omega, by go_num, by rw [firstPre_skip dd (prOf l) Q k kk ii (fun h => hq (by have := h.2; rw [HFP.out.1, HPR.out] at this; exact this)), HA1.out], HWL⟩, by simp [intOf]; omega⟩
                · have hik2 : ii = k := by omega
                  subst hik2
                  generalize hat2 : 22 + 38 * (firstPre dd (prOf l) Q ii kk ii).length = at2
                  have HA2 := Hid.mk hat2
                  clear hat2
                  go_wp2_with fail
                  exact ⟨⟨kk + 1, by omega, by go_num, by rw [firstPre_next, HA2.out], HWL⟩, by simp [intOf]; omega⟩
          · have hk11 : kk = 10 := by omega
            subst hk11
            have hfl : (firstPre dd (prOf l) Q k 10 0).length = L.length := by
              rw [firstPre_end, ← HANS.out.2.1, List.length_map]
            rw [hfl]
            generalize hat3 : 22 + 38 * L.length = at3
            have HEN := first_end (w := wr) HANS.out.1 HANS.out.2.2.1 (head_len _ _) rfl (HLI.out.2.keep (HWL.out.block g5 HLI.out.1))
            rw [hat3] at HEN
            obtain ⟨a0, hv1, a13⟩ := HEN
            have HV := Hid.mk hv1
            have q0 : (LA : Int) = (at3 : Int) + 14 := by have := HLA.out; omega
            have q2 : (22 : Int) ≤ (at3 : Int) := by omega
            have q3 : ((at3 : Int) - 22) / 38 = (L.length : Int) := by omega
            have q4 : (at3 : Int) + 14 ≤ (c5 : Int) := by omega
            have q5 : (at3 : Int) ≤ 1600 := by omega
            have hrs : sF.told.resting + L.length = k := HANS.out.2.2.2.1
            have hh6 := House.below' api HS5.out.1 HWL.out
            have dcx := (cells3 hh6.cell).1
            have HH6 := Hid.mk (And.intro hh6 (HS5.out.2.1.trans (HWL.out.mono HS5.out.2.1.size)))
            clear hv1 hat3 hfl hh6 dc5
            go_wp2_with fail
            refine (api.look b G5 _ _ HH6.out.1.at_).mono ?_
            rintro e w7 ⟨rfl, hb7⟩
            rw [viewOf]
            have hB8 : Below wr.heap.size wr (w7.alloc (.cells #[.int .i64 sF.told.time, .int .i64 sF.told.resting, .bool sF.told.opn, .int .i64 sF.told.part.length] 37)) := hb7.alloc hb7.size _
            have b0 := (hB8.cell (p := ⟨g5, at3, none⟩) (Nat.lt_of_lt_of_le HLI.out.1 HWL.out.size)).trans a0
            have b13 := (hB8.cell (p := ⟨g5, at3 + 13, none⟩) (Nat.lt_of_lt_of_le HLI.out.1 HWL.out.size)).trans a13
            have hV8 : Lies _ g5 (at3 + 11) (enc (9999 - L.length) 2) := HV.out.keep (hB8.block g5 (Nat.lt_of_lt_of_le HLI.out.1 HWL.out.size))
            have HV8 := Hid.mk hV8
            have HB8 := Hid.mk (HH6.out.2.trans (hB8.mono HH6.out.2.size))
            clear hb7 a0 a13 dcx hB8 hV8
            go_wp2_with fail
            have hv := val_any g5 (at3 + 11) (c5 - (at3 + 11)) (enc (9999 - L.length) 2) _ (by rw [enc_length]; omega) HV8.out
            rw [enc_length, show num (enc (9999 - L.length) 2) 0 = 9999 - L.length from by rw [num_enc]; exact Nat.mod_eq_of_lt (by omega)] at hv
            refine hv.mono ?_
            rintro e w' ⟨rfl, hw⟩
            replace hw := hw.symm
            subst hw
            clear hv
            have q6 : ((9999 - L.length : Nat) : Int) = 9999 - (L.length : Int) := by omega
            have q7 : (k : Int) - (L.length : Int) = ((sF.told.resting : Nat) : Int) := by omega
            rw [q6]
            clear q6
            go_wp2_with fail
            go_ret
            exact ⟨rfl, HB8.out⟩

end Go.Proofs.Ytphkchjejbffeaa

/- The law First as it is stated, out of what the calls do. -/
namespace Go.Proofs.Ytphkchjejbffeaa
open Go.ChangeShapes Go.WideShapes Go.ChangeAt Go.RowKit

set_option maxRecDepth 100000 in
theorem first_lifted {At : World → Nat → (Nat → Prop) → St → Prop} (api : Api At) (os : Os) (started : os.Started) (H : Type) (enc : TypeId × Value → H) :
    ReturnsInHanded {} Try.checked os 3 .any (Rows.firstSpec.pre6 enc Try.prog Try.f3 Rows.firstRow.domain false) (Rows.firstSpec.post enc Try.prog Try.f3 false true false false) := by
  refine returnsInHanded_of_change_sized (C := Try.checked) own started (by kernel_rfl) Try.func3
    (ChangeSpec.witness6 (enc := enc) (C := Try.checked) false ⟨#[], #[.slice none 0 0, .bool false, .int .i64 0], []⟩ 8 (by kernel_rfl) (by kernel_rfl) (by kernel_rfl) (by kernel_rfl)) ?_
  intro W base args ds gs before hval0 hW hcnd hsz0 _
  have hval : ∀ (j : Nat) t v, Try.f3.params[j]? = some t → args[j]? = some v → Value.okWide Try.prog W .any base t v := hval0
  have hW' := hW
  obtain ⟨p, q, hA0, hV, rfl, hfz, hnd⟩ := hW
  have hA : DataW.TrodAll enc Try.prog W 0 (fun _ => true) true Try.f3.params.toList args.toList ds p := hA0
  rw [Try.params3] at hA hval
  obtain ⟨v0, vs0, d0, ds0, p0, q0, hargs, rfl, rfl, h0, r0⟩ := trodAll_cons hA
  obtain ⟨v1, vs1, d1, ds1, p1, q1, rfl, rfl, rfl, h1, r1⟩ := trodAll_cons r0
  obtain ⟨v2, vs2, d2, ds2, p2, q2, rfl, rfl, rfl, h2, r2⟩ := trodAll_cons r1
  obtain ⟨rfl, rfl, rfl⟩ := trodAll_nil r2
  obtain rfl : args = #[v0, v1, v2] := by cases args; simp_all
  obtain ⟨rfl, rfl⟩ := trodVars_none hV
  obtain ⟨a0, len0, cap0, rfl⟩ := okWide_slice Try.underlying22 (hval 0 22 v0 rfl rfl)
  obtain ⟨buy, rfl, rfl, rfl⟩ := open_bool Try.underlying4 (hval 1 4 v1 rfl rfl) h1
  obtain ⟨limit, rfl, rfl, rfl, w2⟩ := open_int Try.underlying3 (hval 2 3 v2 rfl rfl) h2
  have k0 := h0
  have lt0 : ∀ x ∈ p0, x.block < W.heap.size := by obtain ⟨m, hm⟩ := k0; exact DataW.trod_lt m _ _ _ hm
  obtain ⟨l, hl⟩ : ∃ l : List Int, IntsAt W (.slice a0 len0 cap0) l := by
    obtain ⟨fuel, hf⟩ := h0
    obtain ⟨l, hl, -⟩ := open_ints (by simpa [Value.cells] using hf)
    exact ⟨l, hl⟩
  have hw2 := wf_i64 w2
  clear hA0 hval0
  refine (first_any api _ l buy (if buy then 83 else 66) limit W hl (by cases buy <;> simp) hw2.1 hw2.2).mono fun e W' ⟨he, bel⟩ => ?_
  subst he
  exact ⟨_, rfl, _, _, _, [], _, [], hW', trodAll_mk1 (shut_bool Try.underlying4 _), (trodAll_cons_mk (Below.trod laidOut (by kernel_rfl) (of_decide_eq_true (by kernel_rfl)) k0 bel lt0) (trodAll_cons_mk (shut_bool Try.underlying4 _) (trodAll_cons_mk (shut_int Try.underlying3 w2) trodAll_mk0))), rfl, bel.frame _, fun h => by cases h⟩

theorem first_said {At : World → Nat → (Nat → Prop) → St → Prop} (api : Api At) : Rows.FirstSaid :=
  OpenClaim.holds_of_wide 3 Try.f3 rfl rfl rfl rfl rfl rfl rfl ⟨rfl, rfl, rfl, rfl, rfl⟩ rfl rfl rfl rfl rfl (by kernel_rfl) Try.func3 (by kernel_rfl)
    (of_decide_eq_true (by kernel_rfl)) (by unfold Func.isWrapper; first | (rw [if_pos (by decide +kernel)]; kernel_rfl) | (rw [if_neg (by decide +kernel)]; exact ⟨rfl, rfl⟩))
    (fun os started H enc _ => first_lifted api os started H enc)

end Go.Proofs.Ytphkchjejbffeaa
