/- The walk of Feed. -/
import Derived.Test.YtphkchjejbffeaaG20
import Derived.WalkMore
import Derived.Deep.RegionHeld3
namespace Go.Proofs.Ytphkchjejbffeaa
open Go.RowKit
attribute [local go_sem ↓] Go.wp_at_zero Go.wp_at_succ

/-- What holds whenever the next message is looked for. -/
def FedJ (w : World) (b : Nat) (c : BC) (k : SK) (fin : St) (v : Value) (wr : World) : Prop :=
  ∃ cc stc l, Rel wr b cc k stc ∧ Inb cc stc ∧ Rd wr (GB b cc k) v l ∧ stc.feed l = fin ∧ Fr (GB b c k) w wr ∧ (∀ j, GB b cc k j → GB b c k j ∨ w.heap.size ≤ j)

def FedK (w : World) (b : Nat) (c : BC) (k : SK) (fin : St) (a' : Go.Act) (w' : World) : Prop := ∃ (v' u2 u3 u4 u5 u6 u7 u8 u9 u10 u11 u12 u13 u14 u15 u16 u17 u18 u19 u20 u21 u22 u23 u24 u25 u26 u27 : Value), a' = { tmps := #[.pointer (some ⟨b, 0, none⟩), v', u2, u3, u4, u5, u6, u7, u8, u9, u10, u11, u12, u13, u14, u15, u16, u17, u18, u19, u20, u21, u22, u23, u24, u25, u26, u27], defers := [] } ∧ Hid (FedJ w b c k fin v' w')

theorem Fed.after {w wr w' : World} {b : Nat} {c cc : BC} {k : SK} {st : St} (hf : Fr (GB b c k) w wr) (hs : ∀ j, GB b cc k j → GB b c k j ∨ w.heap.size ≤ j) (h : Fed wr b cc k w' st) : Fed w b c k w' st := by
  obtain ⟨c', h1, h2, h3, h4⟩ := h
  refine ⟨c', h1, h2, hf.trans h3 (fun i hi hg => (hs i hg).elim id (fun e => by omega)), fun j hj => ?_⟩
  rcases h4 j hj with e | e
  · exact hs j e
  · exact Or.inr (Nat.le_trans hf.size e)

theorem Rd.lenV {w : World} {F : Nat → Prop} {v : Value} {l : List UInt8} (h : Rd w F v l) : lenV v = l.length := by
  rcases h with ⟨rfl, rfl⟩ | ⟨g, o, cap, rfl, -⟩
  · rfl
  · rfl

set_option maxRecDepth 100000 in
set_option maxHeartbeats 1000000 in
theorem feed_any (b : Nat) (c : BC) (k : SK) (st : St) (v : Value) (l : List UInt8) (w : World) (h : Rel w b c k st) (hi : Inb c st) (hrd : Rd w (GB b c k) v l) (ha : (st.feed l).ans.length ≤ big) (ht : (st.feed l).tape.length ≤ big) :
    Calls Try.prog 12 #[.pointer (some ⟨b, 0, none⟩), v] w fun e w' => e = .returned (.tuple #[]) ∧ Fed w b c k w' (st.feed l) := by
  have HJ : Hid (FedJ w b c k (st.feed l) v w) := ⟨c, st, l, h, hi, hrd, rfl, Fr.refl _ _, fun _ e => Or.inl e⟩
  have HL := Hid.mk (And.intro ha ht)
  generalize st.feed l = fin at HJ HL ⊢
  clear h hi hrd ha ht
  go_enter Try.func12, Try.ntmps12
  go_wp2_with fail
  refine wp_scope_label 0 (FedK w b c k fin) (fun a' _ => lenV (a'.tmps.getD 1 undef)) ⟨v, _, _, _, _, _, _, _, _, _, _, _, _, _, _, _, _, _, _, _, _, _, _, _, _, _, _, rfl, HJ⟩ ?_
  clear HJ v l
  rintro a' wr ⟨v, u2, u3, u4, u5, u6, u7, u8, u9, u10, u11, u12, u13, u14, u15, u16, u17, u18, u19, u20, u21, u22, u23, u24, u25, u26, u27, rfl, HJ⟩
  obtain ⟨cc, stc, l, h, hi, hrd, hfin, hfr, hsub⟩ := HJ.out
  have g0 : wr.cell? ⟨b, 0, none⟩ = some (.bool cc.opn) := by rw [h.B.cell]; exact (cc.get h.B.len).1
  have HR := Hid.mk h
  have HI := Hid.mk hi
  have HD := Hid.mk hrd
  have HE := Hid.mk hfin
  have HF := Hid.mk (And.intro hfr hsub)
  clear h hi hrd hfin hfr hsub HJ
  generalize hop : cc.opn = op at g0
  have HO := Hid.mk hop
  clear hop
  cases op with
  | false =>
    have HX : Hid (Fed w b c k wr fin) := by
      have e : stc.feed l = stc := feed_shut l stc (by rw [← HI.out.opn]; exact HO.out)
      have := HE.out
      rw [e] at this
      subst this
      exact ⟨cc, HR.out, HI.out, HF.out.1, HF.out.2⟩
    go_wp2_with fail
    simp only [Exit.jump]
    refine bodyPost_ret (results_none rfl _ _ _) rfl ?_
    exact ⟨rfl, HX.out⟩
  | true =>
    go_wp2_with fail
    refine (gather_any (GB b cc k) b (Or.inl rfl) cc v l wr HR.out.B HD.out HI.out.less).mono ?_
    rintro e w1 ⟨v1, whole, n, bytes', rfl, hG⟩
    have HG := Hid.mk hG
    clear hG
    cases whole with
    | false =>
      have HX : Hid (Fed w b c k w1 fin) := by
        have := fed_less HR.out HI.out HO.out HG.out
        rw [HE.out] at this
        exact this.after HF.out.1 HF.out.2
      go_wp2_with fail
      simp only [Exit.jump]
      refine bodyPost_ret (results_none rfl _ _ _) rfl ?_
      exact ⟨rfl, HX.out⟩
    | true =>
      obtain ⟨lz, hlz⟩ : ∃ lz, cc.have_ + n = lz := ⟨_, rfl⟩
      have HM : Hid (Calls Try.prog 30 #[.pointer (some ⟨b, 2, none⟩)] w1 fun e w' => e = .returned (.slice (some ⟨b, 2, none⟩) lz 13) ∧ IsB w' b { cc with bytes := bytes', have_ := 0 } ∧ Fr (fun k => k = b) w1 w') := by
        show Calls _ _ _ _ _
        rw [← hlz]
        exact inbox_message b _ w1 HG.out.isB (by have := (HG.out.yes rfl).2.1; have := size_pos (byteAt bytes' 0); show cc.have_ + n ≤ 13; omega)
      have HLZ := Hid.mk hlz
      clear hlz
      go_wp2_with fail
      refine HM.out.mono ?_
      rintro e w2 ⟨rfl, hB2, hf2⟩
      obtain ⟨m, m1, m2, m3, m4, m5, m6, m7, m8, m9⟩ := fed_whole HR.out HI.out HO.out HG.out hB2 hf2
      have hml : m.length = lz := m1.trans HLZ.out
      have hmon := mon_feed l stc
      rw [HE.out] at hmon
      have HDO := Hid.mk (do_any b _ k _ m w2 m6 m3 m2 (Nat.le_trans hmon.ans.length_le HL.out.1) (Nat.le_trans hmon.tape.length_le HL.out.2))
      rw [hml] at HDO
      have HMs := Hid.mk (And.intro m4 (And.intro m5 (And.intro m7 (And.intro m8 m9))))
      clear hB2 hf2 m1 m2 m3 m4 m5 m6 m7 m8 m9 hml hmon HM
      go_wp2_with fail
      refine HDO.out.mono ?_
      rintro e w3 ⟨rfl, hd⟩
      have HN : Hid (FedJ w b c k fin v1 w3 ∧ lenV v1 < lenV v) := by
        obtain ⟨c3, r1, r2, r3⟩ := hd
        obtain ⟨m4, m5, m7, m8, m9⟩ := HMs.out
        have hsub : ∀ j, GB b c3 k j → GB b cc k j ∨ w2.heap.size ≤ j := fun j hj => (r2.sub j hj).imp (m8 j) id
        have hfr := r2.fr.mono (fun j _ e => m8 j e)
        refine ⟨⟨c3, _, l.drop n, r1, ⟨?_, ?_, ?_, Or.inl r2.have_⟩, m9.move hfr hsub, ?_, ?_, ?_⟩, ?_⟩
        · rw [r3, act_opn]
          show (if _ then cc.opn else false) = if _ then stc.opn else false
          rw [HI.out.opn]
        · rw [act_part, r2.have_]
          rfl
        · rw [act_part, r2.have_]
          rfl
        · rw [← m4, ← feed_append, List.take_append_drop]
          exact HE.out
        · exact HF.out.1.trans (m7.trans hfr (fun _ _ e => e)) (fun i hi hg => (HF.out.2 i hg).elim id (fun e => by omega))
        · intro j hj
          rcases hsub j hj with e | e
          · exact HF.out.2 j e
          · exact Or.inr (Nat.le_trans HF.out.1.size (Nat.le_trans m7.size e))
        · rw [HD.out.lenV, m9.lenV, List.length_drop]
          have := HG.out.le
          omega
      clear hd HDO HMs
      go_wp2_with fail
      go_step3
      exact ⟨rfl, ⟨v1, _, _, _, _, _, _, _, _, _, _, _, _, _, _, _, _, _, _, _, _, _, _, _, _, _, _, rfl, HN.out.1⟩, HN.out.2⟩

end Go.Proofs.Ytphkchjejbffeaa

/- Look. -/
namespace Go.Proofs.Ytphkchjejbffeaa
open Go.RowKit
attribute [local go_sem ↓] Go.wp_at_zero Go.wp_at_succ

set_option maxRecDepth 100000 in
set_option maxHeartbeats 600000 in
theorem look_any (b : Nat) (c : BC) (k : SK) (st : St) (w : World) (h : Rel w b c k st) (hi : Inb c st) :
    Calls Try.prog 17 #[.pointer (some ⟨b, 0, none⟩)] w fun e w' => e = .returned (viewOf st) ∧ Below w.heap.size w w' := by
  obtain ⟨M, od, ps, fl, hbk, hM, hF⟩ := h.ex
  obtain ⟨free, fs, ls, bef, aft, hIs, hLk⟩ := hbk.ex
  have HRS := Hid.mk (fun w' (hw : w'.heap[k.bk]? = w.heap[k.bk]?) => resting_any k.bk (k.kc free st.resting) w' ⟨hw.trans hIs.K.blk⟩)
  have g0 : w.cell? ⟨b, 0, none⟩ = some (.bool c.opn) := by rw [h.B.cell]; exact (c.get h.B.len).1
  have g1 : w.cell? ⟨b, 1, none⟩ = some (.int .u64 c.time) := by rw [h.B.cell]; exact (c.get h.B.len).2.1
  have g15 : w.cell? ⟨b, 15, none⟩ = some (.int .i64 c.have_) := by rw [h.B.cell]; exact (c.get h.B.len).2.2.1
  have g19 : w.cell? ⟨b, 19, none⟩ = some (.pointer (some ⟨k.bk, 0, none⟩)) := by rw [h.B.cell, ← h.bk]; exact (c.get h.B.len).2.2.2.2.2.2.1
  have HV : Hid (viewOf st = .agg #[.int .i64 c.time, .int .i64 st.resting, .bool c.opn, .int .i64 c.have_]) := by
    show _ = _
    unfold viewOf
    rw [← h.time, ← hi.opn, hi.len]
  have t1 := h.tm
  have w1 : IntKind.i64.wrap (c.time : Int) = (c.time : Int) := by
    have := h.time
    have := h.inv.time
    rw [IntKind.wrap_i64]
    omega
  have HKL := Hid.mk hIs.K.lt
  generalize st.resting = r at *
  clear h hi hbk hM hF hIs hLk t1
  go_enter Try.func17, Try.ntmps17
  go_wp2_with fail
  have hbl : b < w.heap.size := World.block_lt_of_cell? w _ g0
  have hkl := HKL.out
  generalize hW : w.alloc (Obj.cells #[Value.int IntKind.i64 0, Value.int IntKind.i64 0, Value.bool false, Value.int IntKind.i64 0] 37) = W
  have hF : Fr (fun _ => False) w W := by rw [← hW]; exact Fr.alloc _ _ _
  have HBW : Hid (Below w.heap.size w W) := by
    show Below _ _ _
    rw [← hW]; exact (Below.refl _ _).alloc (Nat.le_refl _) _
  have hbx : W.heap[w.heap.size]? = some (Obj.cells #[Value.int IntKind.i64 0, Value.int IntKind.i64 0, Value.bool false, Value.int IntKind.i64 0] 37) := by rw [← hW, heap_alloc, if_pos rfl]
  clear hW
  have q0 := hF.cell g0 (fun e => e)
  have q1 := hF.cell g1 (fun e => e)
  have q15 := hF.cell g15 (fun e => e)
  have q19 := hF.cell g19 (fun e => e)
  have HC : Hid (∀ W', W'.heap = W.heap → Calls Try.prog 32 #[.pointer (some ⟨k.bk, 0, none⟩)] W' fun e w' => e = .returned (.int .i64 r) ∧ w' = W') := fun W' e => HRS.out W' (by rw [e]; exact hF.block k.bk hkl (fun e => e))
  obtain ⟨g, hg⟩ : ∃ g, w.heap.size = g := ⟨_, rfl⟩
  have x0 : W.drew.cell? ⟨g, 0, none⟩ = some (.int .i64 0) := by rw [← hg]; exact cell_of_row _ _ 0 _ _ (0, 0) hbx
  have x1 : W.drew.cell? ⟨g, 1, none⟩ = some (.int .i64 0) := by rw [← hg]; exact cell_of_row _ _ 1 _ _ (0, 0) hbx
  have x2 : W.drew.cell? ⟨g, 2, none⟩ = some (.bool false) := by rw [← hg]; exact cell_of_row _ _ 2 _ _ (0, 0) hbx
  have x3 : W.drew.cell? ⟨g, 3, none⟩ = some (.int .i64 0) := by rw [← hg]; exact cell_of_row _ _ 3 _ _ (0, 0) hbx
  have fo : ∀ j, W.drew.frozen? ⟨g, j, none⟩ = false := fun j => by rw [← hg]; show W.frozen? _ = false; simp [World.frozen?, hbx]
  have f0 := fo 0
  have f1 := fo 1
  have f2 := fo 2
  have f3 := fo 3
  rw [hg] at hbx HBW ⊢
  have HBX := Hid.mk hbx
  have HG := Hid.mk hg
  have hbg : b < g := by rw [← hg]; exact hbl
  have hbn : ¬ b = g := by omega
  have hbn2 : ¬ g = b := by omega
  have HS := Hid.mk (And.intro q0 (And.intro q1 (And.intro q15 q19)))
  clear fo hbx hF g0 g1 g15 g19 HRS hbl hkl hg HKL
  go_region_held3 (fun w' => w'.cell? ⟨b, 0, none⟩ = some (.bool c.opn) ∧ w'.cell? ⟨b, 1, none⟩ = some (.int .u64 c.time) ∧ w'.cell? ⟨b, 15, none⟩ = some (.int .i64 c.have_) ∧ w'.cell? ⟨b, 19, none⟩ = some (.pointer (some ⟨k.bk, 0, none⟩))) (first | with_reducible exact m1 | go_keep)
    ((go_at_call 32; refine (HC.out W.drew rfl).mono ?_; rintro e w2 ⟨rfl, hw⟩; have m1 : w2.cell? ⟨b, 0, none⟩ = some (.bool c.opn) ∧ w2.cell? ⟨b, 1, none⟩ = some (.int .u64 c.time) ∧ w2.cell? ⟨b, 15, none⟩ = some (.int .i64 c.have_) ∧ w2.cell? ⟨b, 19, none⟩ = some (.pointer (some ⟨k.bk, 0, none⟩)) := (by rw [hw]; exact HS.out); have y0 : w2.cell? ⟨g, 0, none⟩ = some (.int .i64 0) := (by rw [hw]; exact x0); have y1 : w2.cell? ⟨g, 1, none⟩ = some (.int .i64 0) := (by rw [hw]; exact x1); have y2 : w2.cell? ⟨g, 2, none⟩ = some (.bool false) := (by rw [hw]; exact x2); have y3 : w2.cell? ⟨g, 3, none⟩ = some (.int .i64 0) := (by rw [hw]; exact x3); have e0 : w2.frozen? ⟨g, 0, none⟩ = false := (by rw [hw]; exact f0); have e1 : w2.frozen? ⟨g, 1, none⟩ = false := (by rw [hw]; exact f1); have e2 : w2.frozen? ⟨g, 2, none⟩ = false := (by rw [hw]; exact f2); have e3 : w2.frozen? ⟨g, 3, none⟩ = false := (by rw [hw]; exact f3); have HW := Hid.mk hw; clear hw))
  have hbx2 : w2.heap[g]? = _ := (show w2.heap[g]? = W.heap[g]? by rw [HW.out]; rfl).trans HBX.out
  have hfin : ((((w2.setCell ⟨g, 0, none⟩ (.int .i64 c.time)).setCell ⟨g, 1, none⟩ (.int .i64 r)).setCell ⟨g, 2, none⟩ (.bool c.opn)).setCell ⟨g, 3, none⟩ (.int .i64 c.have_)).heap[g]? = some (.cells #[.int .i64 c.time, .int .i64 r, .bool c.opn, .int .i64 c.have_] 37) := by
    rw [heap_setCell_same _ g 3 _ _ _ (heap_setCell_same _ g 2 _ _ _ (heap_setCell_same _ g 1 _ _ _ (heap_setCell_same _ g 0 _ _ _ hbx2)))]
    rfl
  have hfr : Fr (fun j => j = g) w2 ((((w2.setCell ⟨g, 0, none⟩ (.int .i64 c.time)).setCell ⟨g, 1, none⟩ (.int .i64 r)).setCell ⟨g, 2, none⟩ (.bool c.opn)).setCell ⟨g, 3, none⟩ (.int .i64 c.have_)) := (Fr.setCell w2 ⟨g, 0, none⟩ _).trans ((Fr.setCell _ ⟨g, 1, none⟩ _).trans ((Fr.setCell _ ⟨g, 2, none⟩ _).trans (Fr.setCell _ ⟨g, 3, none⟩ _) (fun _ _ e => e)) (fun _ _ e => e)) (fun _ _ e => e)
  have HBL : Hid (Below w.heap.size w ((((w2.setCell ⟨g, 0, none⟩ (.int .i64 c.time)).setCell ⟨g, 1, none⟩ (.int .i64 r)).setCell ⟨g, 2, none⟩ (.bool c.opn)).setCell ⟨g, 3, none⟩ (.int .i64 c.have_))) := by
    have h1 : Fr (fun j => j = g) w W := Fr.of_below (by rw [HG.out]; exact HBW.out) _
    have h2 : Fr (fun j => j = g) W w2 := by rw [HW.out]; exact Fr.drew _ _
    exact ((h1.trans h2 (fun _ _ e => e)).trans hfr (fun _ _ e => e)).below (Nat.le_refl _) (fun j e => by rw [HG.out]; exact Nat.le_of_eq e.symm)
  generalize ((((w2.setCell ⟨g, 0, none⟩ (.int .i64 c.time)).setCell ⟨g, 1, none⟩ (.int .i64 r)).setCell ⟨g, 2, none⟩ (.bool c.opn)).setCell ⟨g, 3, none⟩ (.int .i64 c.have_)) = w9 at hfin HBL ⊢
  have u0 : w9.cell? ⟨g, 0, none⟩ = some (.int .i64 c.time) := cell_of_row _ _ 0 _ _ (0, 0) hfin
  have u1 : w9.cell? ⟨g, 1, none⟩ = some (.int .i64 r) := cell_of_row _ _ 1 _ _ (0, 0) hfin
  have u2 : w9.cell? ⟨g, 2, none⟩ = some (.bool c.opn) := cell_of_row _ _ 2 _ _ (0, 0) hfin
  have u3 : w9.cell? ⟨g, 3, none⟩ = some (.int .i64 c.have_) := cell_of_row _ _ 3 _ _ (0, 0) hfin
  clear hfin hfr hbx2 m1 y0 y1 y2 y3 e0 e1 e2 e3 x0 x1 x2 x3 f0 f1 f2 f3 q0 q1 q15 q19
  go_wp2_with fail
  exact bodyPost_ret (v := .agg #[.int .i64 c.time, .int .i64 r, .bool c.opn, .int .i64 c.have_]) (by simp [results, Try.results17, go_sem, u0, u1, u2, u3]) rfl ⟨by rw [HV.out], HBL.out⟩

end Go.Proofs.Ytphkchjejbffeaa

/- Book. -/
namespace Go.Proofs.Ytphkchjejbffeaa
open Go.RowKit
attribute [local go_sem ↓] Go.wp_at_zero Go.wp_at_succ

theorem Try.infoApi : (Try.prog.info? 46).map (fun i => (i.zero, i.size, i.bytes)) = some (some (.agg #[.int .i64 0, .int .i64 0, .int .u8 0, .int .i64 0, .int .i64 0, .int .i64 0]), 6, 48) := by kernel_rfl
theorem und_api : Try.prog.underlying 42 = some (.slice 46) := by kernel_rfl

theorem flat_getG {α : Type} (f : α → List Value) (n : Nat) (hn : ∀ x, (f x).length = n) (l : List α) (i j : Nat) (x : α) (u : Value) (hi : l[i]? = some x) (hj : j < n) (hu : (f x)[j]? = some u) : (l.flatMap f)[i * n + j]? = some u := by
  induction l generalizing i with
  | nil => simp at hi
  | cons y l ih =>
    rw [List.flatMap_cons]
    cases i with
    | zero =>
      simp at hi
      subst hi
      rw [Nat.zero_mul, Nat.zero_add, List.getElem?_append_left (by rw [hn]; omega)]
      exact hu
    | succ i =>
      simp at hi
      have := ih i hi
      rw [List.getElem?_append_right (by rw [hn, Nat.add_mul]; omega), hn, ← this]
      congr 1
      rw [Nat.add_mul]
      omega
theorem rows_orders {w : World} {b : Nat} {ra : Option Addr} {n cap : Nat} {bef aft : Nat → Nat} {od : Nat → Ord} {L : List Nat} (h : w.ownsRow b 129 8 (.slice ra n cap) L.length (rowsO bef aft od L)) (hL : 0 < L.length) :
    ∃ g, ra = some ⟨g, 0, none⟩ ∧ g < w.heap.size ∧ ∀ i x, L[i]? = some x → ∀ t u, t < 8 → (ordL (bef x) (aft x) (od x))[t]? = some u → w.cell? ⟨g, i * 8 + t, none⟩ = some u := by
  rcases h.2 with ⟨h1, h2⟩ | ⟨g, cap', cur, h1, h2, h3, h4⟩
  · omega
  · cases h1
    refine ⟨g, rfl, (Array.getElem?_eq_some_iff.1 h3).1, fun i x hi t u ht hu => ?_⟩
    have := h.cells (g := g) rfl (i * 8 + t) u (flat_getG _ 8 (fun _ => rfl) L i t x u hi ht hu)
    rwa [Addr.add_lit, Nat.zero_add] at this
theorem ownsRow_low {w : World} {b b' : Nat} {e : TypeId} {size : Nat} {v : Value} {n : Nat} {xs : List Value} (h : w.ownsRow b e size v n xs) (hb : b' ≤ b) : w.ownsRow b' e size v n xs := by
  refine ⟨h.1, ?_⟩
  rcases h.2 with h | ⟨g, cap, cur, h1, h2, h3⟩
  · exact .inl h
  · exact .inr ⟨g, cap, cur, h1, Nat.le_trans hb h2, h3⟩
theorem cells_ones (o : Ord) : ∀ u ∈ o.cells, u.oneCell' = true := by
  intro u hu; simp [Ord.cells] at hu; rcases hu with rfl | rfl | rfl | rfl | rfl | rfl <;> rfl
theorem rdRow_api (w : World) (o : Ord) : RdRow (w.alloc (.cells o.cells.toArray 46)) 6 (.slice (some ⟨w.heap.size, 0, none⟩) 1 1) 1 o.cells := by
  refine Or.inr ⟨w.heap.size, 0, 1, rfl, rfl, ?_⟩
  intro j u hu
  rw [cell_of_row _ w.heap.size _ _ 46 (0, 0) (by rw [heap_alloc, if_pos rfl])]
  simpa using hu

theorem flat_same {β : Type} (l : List Nat) (f g : Nat → List β) (h : ∀ i ∈ l, f i = g i) : l.flatMap f = l.flatMap g := by
  induction l with
  | nil => rfl
  | cons x l ih => rw [List.flatMap_cons, List.flatMap_cons, h x (by simp), ih (fun i hi => h i (by simp [hi]))]

/-- What is listed is the book. -/
theorem listed {S L n : Nat} {od : Nat → Ord} {ps : Nat → UInt8 → Nat → List Nat} {fl : List Nat} {M : Nat → Option Nat} {st : St} (h : Fi S L n od ps fl M st) (s : Nat) (hs : s < S) : (upS L ps s 2).map od = st.book s := by
  have e : upS L ps s 2 = upR L ps s 66 L ++ upR L ps s 83 L := by simp [upS, List.range_succ, sdx]
  have hb : (upR L ps s 66 L).map od = st.bids s := by
    unfold upR St.bids
    rw [← h.hL, List.map_flatMap]
    refine flat_same _ _ _ (fun i hi => ?_)
    have := List.mem_range.1 hi
    rw [if_pos rfl]
    exact (h.q s 66 (L - i) ⟨hs, Or.inl rfl, by omega, by omega⟩).symm
  have ha : (upR L ps s 83 L).map od = st.asks s := by
    unfold upR St.asks
    rw [← h.hL, List.map_flatMap]
    refine flat_same _ _ _ (fun i hi => ?_)
    have := List.mem_range.1 hi
    rw [if_neg (by decide)]
    exact (h.q s 83 (i + 1) ⟨hs, Or.inr rfl, by omega, by omega⟩).symm
  rw [e, List.map_append, hb, ha]
  rfl
theorem upS_mem {L s x : Nat} {ps : Nat → UInt8 → Nat → List Nat} (h : x ∈ upS L ps s 2) : ∃ d p, (d = 66 ∨ d = 83) ∧ 1 ≤ p ∧ p ≤ L ∧ x ∈ ps s d p := by
  simp only [upS, upR, List.mem_flatMap, List.mem_range] at h
  obtain ⟨i, hi, r, hr, hx⟩ := h
  exact ⟨_, _, sdx_ok i, by split <;> omega, by split <;> omega, hx⟩

structure Ord.small (o : Ord) : Prop where
  ref : o.ref < 4294967296
  token : o.token < 4294967296
  stock : o.stock < 256
  price : o.price < 65536
  shares : o.shares < 65536

set_option maxRecDepth 100000 in
set_option maxHeartbeats 600000 in
theorem plain_any (a z : Nat) (o : Ord) (w : World) (h : o.small) :
    Calls Try.prog 59 #[ordV a z o] w fun e w' => e = .returned (.agg o.cells.toArray) ∧ Below w.heap.size w w' := by
  obtain ⟨h1, h2, h3, h4, h5⟩ := h
  unfold ordV ordL Ord.cells
  go_enter Try.func59, Try.ntmps59
  go_wp2_with fail
  exact bodyPost_ret (v := .agg #[.int .i64 o.ref, .int .i64 o.token, .int .u8 o.side.toNat, .int .i64 o.stock, .int .i64 o.price, .int .i64 o.shares]) (by simp [results, Try.results59, go_sem]) rfl ⟨rfl, Below.alloc ((Below.refl _ _).alloc (Nat.le_refl _) _) (by rw [size_alloc]; omega) _⟩

set_option maxRecDepth 100000 in
set_option maxHeartbeats 600000 in
theorem book_any (b : Nat) (c : BC) (k : SK) (st : St) (s : Nat) (w : World) (h : Rel w b c k st) (hs : s < st.stocks) :
    Calls Try.prog 33 #[.pointer (some ⟨b, 0, none⟩), .int .i64 s] w fun e w' => ∃ v,
      e = .returned (.tuple #[v, .int .i64 0]) ∧ w'.ownsRow w.heap.size 46 6 v (st.book s).length ((st.book s).flatMap Ord.cells) ∧ Below w.heap.size w w' := by
  obtain ⟨M, od, ps, fl, hbk, hM, hF⟩ := h.ex
  obtain ⟨free, fs, ls, bef, aft, hIs, hLk⟩ := hbk.ex
  have g19 : w.cell? ⟨b, 19, none⟩ = some (.pointer (some ⟨k.bk, 0, none⟩)) := by rw [h.B.cell, ← h.bk]; exact (c.get h.B.len).2.2.2.2.2.2.1
  have HST := Hid.mk (stocks_any k.bk (k.kc free st.resting) w hIs.K)
  have hS : k.S = st.stocks := hF.hS
  have HW := Hid.mk (within_yes s 0 ((k.S : Int) - 1) w (by omega) (by omega))
  have ks : (k.S : Int) ≤ 8 := by have := hbk.ok.S; omega
  have HLI := Hid.mk (list_mem k hbk.ok s free st.resting fs ls bef aft od ps fl w hIs hLk (by omega))
  have HLEN : Hid (∀ PL nl, upS k.L ps s 2 = PL → PL.length = nl → nl ≤ 8320) := by
    rintro PL nl rfl rfl
    have h1 := hLk.lenS (show s < k.S by omega) 2
    have h2 : k.L * k.n ≤ 64 * 65 := Nat.mul_le_mul hbk.ok.L hbk.ok.n.2
    omega
  have HSM : Hid (∀ x, x ∈ upS k.L ps s 2 → (od x).small) := by
    intro x hx
    obtain ⟨d, p, hd, hp1, hp2, hm⟩ := upS_mem hx
    have hv : VV k.S k.L s d p := ⟨by omega, hd, hp1, hp2⟩
    have hfit := hF.fits hv hm
    have k1 := hbk.ok.S
    have k2 := hbk.ok.L
    exact ⟨hfit.ref, hfit.token, by rw [hfit.stock]; omega, by rw [hfit.price]; omega, by have := hfit.most; omega⟩
  have HBK : Hid ((upS k.L ps s 2).map od = st.book s) := listed hF s (by omega)
  replace HST : Hid (Calls Try.prog 57 #[.pointer (some ⟨k.bk, 0, none⟩)] w fun e w' => e = .returned (.int .i64 k.S) ∧ w' = w) := HST
  clear hS hs h hbk hM hF hIs hLk
  go_enter Try.func33, Try.ntmps33
  go_wp2_with fail
  refine HST.out.mono ?_
  rintro e w' ⟨rfl, hw⟩
  replace hw := hw.symm
  subst hw
  clear HST
  go_wp2_with fail
  refine HW.out.mono ?_
  rintro e w' ⟨rfl, hw⟩
  replace hw := hw.symm
  subst hw
  clear HW
  go_wp2_with fail
  refine HLI.out.mono ?_
  rintro e w1 ⟨v, rfl, hv, hb1⟩
  obtain ⟨va, vc, hvv, hvc, hvm⟩ := ownsRow_len hv
  have HV := Hid.mk (And.intro hv hb1)
  have HVV := Hid.mk hvv
  clear hv hb1 HLI
  generalize hPL : upS k.L ps s 2 = PL at HV HVV
  have HPL := Hid.mk hPL
  obtain ⟨nl, hnl⟩ : ∃ nl, PL.length = nl := ⟨_, rfl⟩
  rw [hPL] at hvc
  rw [hnl] at hvc
  have HVV2 : Hid (v = .slice va nl vc) := by
    show _ = _
    rw [← hnl]; exact HVV.out
  have hvv2 := HVV2.out
  subst hvv2
  have HNL := Hid.mk hnl
  clear hPL hvv hnl HVV HVV2
  have HU : Hid (nl ≤ 8320) := HLEN.out _ _ HPL.out HNL.out
  have hnu := HU.out
  go_wp2_with fail
  obtain ⟨i0, hi, hz0, hz1, hz2⟩ := info_parts Try.infoApi
  go_loopw [6, 25] (fun v i wr => ∃ j : Nat, j ≤ nl ∧ i = .int .i64 j ∧ Hid (wr.ownsRow w1.heap.size 46 6 v j (((PL.take j).map od).flatMap Ord.cells)) ∧ Hid (Below w1.heap.size w1 wr)) (fun _ i _ => nl - (intOf i).toNat)
  case atStart => exact ⟨0, Nat.zero_le _, rfl, World.ownsRow_nil _ _ _ _, Below.refl _ _⟩
  case round =>
    obtain ⟨j, hj, rfl, hown, hB⟩ := hrel
    by_cases hjl : j < nl
    · have i2 : (j : Int) < (nl : Int) := by omega
      obtain ⟨g, rfl, hg, hcs⟩ := rows_orders HV.out.1 (by rw [HNL.out]; omega)
      obtain ⟨x, hx⟩ : ∃ x, PL[j]? = some x := ⟨_, List.getElem?_eq_getElem (by rw [HNL.out]; exact hjl)⟩
      have hcx := hcs j x hx
      have HTK : Hid (((PL.take (j + 1)).map od).flatMap Ord.cells = ((PL.take j).map od).flatMap Ord.cells ++ (od x).cells) := by
        show _ = _
        rw [List.take_add_one, hx]
        simp
      have HSX : Hid ((od x).small) := HSM.out x (by rw [HPL.out]; exact List.mem_of_getElem? hx)
      have hgr : g < wr.heap.size := Nat.lt_of_lt_of_le hg hB.out.size
      generalize od x = o at hcx HTK HSX
      generalize bef x = bx at hcx
      generalize aft x = ax at hcx
      have cx : ∀ t u, t < 8 → (ordL bx ax o)[t]? = some u → wr.cell? ⟨g, j * 8 + t, none⟩ = some u := fun t u ht hu => (hB.out.cell (p := ⟨g, j * 8 + t, none⟩) hg).trans (hcx t u ht hu)
      have d0 : wr.cell? ⟨g, j * 8, none⟩ = some (.int .i64 bx) := cx 0 _ (by omega) rfl
      have d1 : wr.cell? ⟨g, j * 8 + 1, none⟩ = some (.int .i64 ax) := cx 1 _ (by omega) rfl
      have d2 : wr.cell? ⟨g, j * 8 + 2, none⟩ = some (.int .u32 o.ref) := cx 2 _ (by omega) rfl
      have d3 : wr.cell? ⟨g, j * 8 + 3, none⟩ = some (.int .u32 o.token) := cx 3 _ (by omega) rfl
      have d4 : wr.cell? ⟨g, j * 8 + 4, none⟩ = some (.int .u8 o.side.toNat) := cx 4 _ (by omega) rfl
      have d5 : wr.cell? ⟨g, j * 8 + 5, none⟩ = some (.int .u8 o.stock) := cx 5 _ (by omega) rfl
      have d6 : wr.cell? ⟨g, j * 8 + 6, none⟩ = some (.int .u16 o.price) := cx 6 _ (by omega) rfl
      have d7 : wr.cell? ⟨g, j * 8 + 7, none⟩ = some (.int .u16 o.shares) := cx 7 _ (by omega) rfl
      clear cx hcx hcs
      have HPA : Hid (∀ W, Calls Try.prog 59 #[.agg #[.int .i64 bx, .int .i64 ax, .int .u32 o.ref, .int .u32 o.token, .int .u8 o.side.toNat, .int .u8 o.stock, .int .u16 o.price, .int .u16 o.shares]] W fun e w' => e = .returned (.agg #[.int .i64 o.ref, .int .i64 o.token, .int .u8 o.side.toNat, .int .i64 o.stock, .int .i64 o.price, .int .i64 o.shares]) ∧ Below W.heap.size W w') := fun W => plain_any bx ax o W HSX.out
      go_wp2_with fail
      refine (HPA.out _).mono ?_
      rintro e w2 ⟨rfl, hb2⟩
      have hB2 : Hid (Below w1.heap.size w1 w2) := (hB.out.alloc hB.out.size _).trans (hb2.mono (by rw [size_alloc]; have := hB.out.size; omega))
      have hown2 : w2.ownsRow w1.heap.size 46 6 u6 j (((PL.take j).map od).flatMap Ord.cells) := ownsRow_keep hown.out (fun g hg => by
        have := (hown.out.lt g hg).2
        rw [hb2.block g (by rw [size_alloc]; omega), heap_alloc, if_neg (by omega)])
      have HOA : Hid (∀ Ob : Obj, (w2.alloc Ob).ownsRow w1.heap.size 46 6 u6 j (((PL.take j).map od).flatMap Ord.cells)) := fun Ob => ownsRow_keep hown2 (fun g hg => by rw [heap_alloc, if_neg (by have := (hown2.lt g hg).2; omega)])
      have HOX := Hid.mk hown2
      clear hb2 hown2 hown hB d0 d1 d2 d3 d4 d5 d6 d7 HPA hgr hg hx
      go_wp2_with (at_builtin; go_must (refine wpList_append_row rfl _ _ 42 rfl w1.heap.size 46 i0 _ 6 48 und_api hi hz0 hz1 hz2 rfl (by decide) u6 j (((PL.take j).map od).flatMap Ord.cells) rfl (HOA.out _) (.slice (some ⟨w2.heap.size, 0, none⟩) 1 1) 1 o.cells rfl (rdRow_api w2 o) (cells_ones o) (by unfold maxLen; omega) (by omega) (by rw [size_alloc]; have := hB2.out.size; omega) ?_); intro rb capb w3 hown3 hg3 hv3; have hB3 : Hid (Below w1.heap.size w1 w3) := (hB2.out.alloc hB2.out.size _).grown hg3 (by rw [size_alloc]; have := hB2.out.size; omega) (fun g hg => (HOX.out.lt g hg).1); replace hown3 := Hid.mk hown3; clear hg3 hv3)
      exact ⟨⟨j + 1, by omega, by go_num, by show World.ownsRow _ _ _ _ _ _ _; rw [HTK.out]; exact hown3.out, hB3⟩, by simp [intOf]; omega⟩
    · have i2 : ¬ ((j : Int) < (nl : Int)) := by omega
      go_wp2_with fail
      go_ret2
      have : j = nl := by omega
      subst this
      have hlen : (st.book s).length = j := by rw [← HBK.out, HPL.out, List.length_map, HNL.out]
      refine ⟨_, rfl, ?_, HV.out.2.trans (hB.out.mono HV.out.2.size)⟩
      rw [hlen, ← HBK.out, HPL.out]
      have := ownsRow_low hown.out HV.out.2.size
      rwa [List.take_of_length_le (by rw [HNL.out]; exact Nat.le_refl _)] at this

end Go.Proofs.Ytphkchjejbffeaa

/- The orders of a tape in memory, and their places. -/
namespace Go.Proofs.Ytphkchjejbffeaa
open Go.RowKit
open Go.Maps (Keyed)

theorem IsM.storeG {w : World} {pm n : Nat} {M : Nat → Option Nat} (h : IsM w pm n M) (t v : Nat) (ht : t < 4294967296) (hv : v < 9223372036854775808) (hn : n < maxLen) :
    ∃ w', (Instr.mapUpdate 78 (.map (some pm)) (.int .u32 t) (.int .i64 v)).run Try.prog w = .ok () w' ∧ IsM w' pm (if (M t).isSome then n else n + 1) (updM M t (some v)) ∧ Fr (fun k => k = pm) w w' := by
  obtain ⟨D, h1, h2, h3⟩ := h
  obtain ⟨w', hrun, hown, hturn⟩ := h1.store keyed32 und_map hn (key32 t ht) (plainElem_int und_int (wf64 v (by omega)))
  have hsz : Maps.size (D.put (.int .u32 t) (.lit (.int .i64 v))) = if (M t).isSome then n else n + 1 := by
    rw [Maps.size_put (h1.tidy keyed32), (h3 t ht).1, h2]
  refine ⟨w', hrun, ⟨_, ?_, hsz, ?_⟩, ?_⟩
  · rw [← hsz]
    exact own_exact hown
  · intro u hu
    by_cases e : u = t
    · subst e
      rw [updM_same, Maps.has_put_same h1.isMap (keyLit _), Maps.atKey_put_same h1.isMap (keyLit _)]
      exact ⟨rfl, rfl⟩
    · have hne : (Lit.int .u32 (u : Int)) ≠ .int .u32 (t : Int) := by
        intro e2
        have := (Lit.int.inj e2).2
        exact e (by omega)
      rw [updM_ne _ _ _ _ e, Maps.has_put_other hne, Maps.atKey_put_other hne]
      exact h3 u hu
  · have := hturn.grown
    exact ⟨this.os, this.tape, this.output, this.size, fun k hk hn => this.block k hk (fun e => hn (Option.some.inj e))⟩

theorem IsM.drop {w : World} {pm n : Nat} {M : Nat → Option Nat} (h : IsM w pm n M) (t : Nat) (ht : t < 4294967296) (ty : TypeId) :
    ∃ w' n', (Builtin.delete_ #[78, 77] ty #[.map (some pm), .int .u32 t]).run Try.prog w = .ok (.tuple #[]) w' ∧ IsM w' pm n' (updM M t none) ∧ (n' + (if (M t).isSome then 1 else 0) = n) ∧ Fr (fun k => k = pm) w w' := by
  obtain ⟨D, h1, h2, h3⟩ := h
  obtain ⟨w', hrun, hown, hturn⟩ := h1.drop keyed32 und_map (key32 t ht) ty
  have hsz := Maps.size_del (k := .int .u32 t) (h1.tidy keyed32)
  refine ⟨w', Maps.size (D.del (.int .u32 t)), hrun, ⟨_, own_exact hown, rfl, ?_⟩, ?_, ?_⟩
  · intro u hu
    by_cases e : u = t
    · subst e
      rw [updM_same, Maps.has_del_same, Maps.atKey_del_same]
      exact ⟨rfl, rfl⟩
    · have hne : (Lit.int .u32 (u : Int)) ≠ .int .u32 (t : Int) := by
        intro e2
        have := (Lit.int.inj e2).2
        exact e (by omega)
      rw [updM_ne _ _ _ _ e, Maps.has_del_other hne, Maps.atKey_del_other hne]
      exact h3 u hu
  · rw [← h2, ← hsz, (h3 t ht).1]
  · have := hturn.grown
    exact ⟨this.os, this.tape, this.output, this.size, fun k hk hn => this.block k hk (fun e => hn (Option.some.inj e))⟩

/-- The orders L, in a row of one's own. -/
def OsAt (w : World) (base : Nat) (v : Value) (L : List Ord) : Prop := w.ownsRow base 129 8 v L.length (L.flatMap (ordL 0 0))

theorem OsAt.form {w : World} {base : Nat} {v : Value} {l : List Ord} (h : OsAt w base v l) : ∃ ra cap, v = .slice ra l.length cap ∧ l.length ≤ cap ∧ cap ≤ maxLen ∧
    ∀ (i : Nat) (x : Ord), l[i]? = some x → ∃ g, ra = some ⟨g, 0, none⟩ ∧ base ≤ g ∧ g < w.heap.size ∧ (∀ j, w.frozen? ⟨g, j, none⟩ = false) ∧ w.rangeAt g (i * 8) (ordL 0 0 x) := by
  rcases h.2 with ⟨h1, h2⟩ | ⟨g, cap, cur, h1, h2, h3, h4, h5, h6, h7⟩
  · refine ⟨none, 0, by rw [h1, h2], by omega, by unfold maxLen; omega, ?_⟩
    intro i x hx
    rw [List.length_eq_zero_iff.1 h2] at hx
    simp at hx
  · refine ⟨_, cap, h1, h4, h5, ?_⟩
    intro i x hx
    refine ⟨g, rfl, h2, (Array.getElem?_eq_some_iff.1 h3).1, fun j => by simp [World.frozen?, h3], ?_⟩
    intro j u hu
    have hj : j < 8 := (List.getElem?_eq_some_iff.1 hu).1
    have := h.cells (g := g) (by rw [h1]; rfl) (i * 8 + j) u (flat_getG _ 8 (fun _ => rfl) l i j x u hx hj hu)
    rwa [Addr.add_lit, Nat.zero_add] at this

theorem os_set (l : List Ord) (i j : Nat) (x y : Ord) (u : Value) (hi : l[i]? = some x) (hj : j < 8) (hy : ordL 0 0 y = (ordL 0 0 x).set j u) : (l.flatMap (ordL 0 0)).set (i * 8 + j) u = (l.set i y).flatMap (ordL 0 0) := by
  have hlen : ∀ z : Ord, (ordL 0 0 z).length = 8 := fun _ => rfl
  induction l generalizing i with
  | nil => simp at hi
  | cons z l ih =>
    cases i with
    | zero =>
      simp at hi
      subst hi
      rw [List.flatMap_cons, Nat.zero_mul, Nat.zero_add, List.set_append_left _ _ (by rw [hlen]; omega), ← hy]
      rfl
    | succ i =>
      simp at hi
      rw [List.flatMap_cons, List.set_append_right _ _ (by rw [hlen]; omega), show (i + 1) * 8 + j - (ordL 0 0 z).length = i * 8 + j by rw [hlen]; omega, ih i hi]
      rfl
theorem OsAt.put {w : World} {base g len cap : Nat} {l : List Ord} (h : OsAt w base (.slice (some ⟨g, 0, none⟩) len cap) l) (i j : Nat) (x y : Ord) (u : Value) (hi : l[i]? = some x) (hj : j < 8) (hy : ordL 0 0 y = (ordL 0 0 x).set j u) :
    OsAt (w.setCell ⟨g, i * 8 + j, none⟩ u) base (.slice (some ⟨g, 0, none⟩) len cap) (l.set i y) := by
  refine ⟨by rw [← os_set l i j x y u hi hj hy, List.length_set, List.length_set]; exact h.1, ?_⟩
  rcases h.2 with ⟨h1, -⟩ | ⟨g', cap', cur, h1, h2, h3, h4, h5, h6, h7⟩
  · simp at h1
  · simp only [Value.slice.injEq, Option.some.injEq, Addr.mk.injEq] at h1
    obtain ⟨⟨rfl, -, -⟩, h1, rfl⟩ := h1
    refine .inr ⟨g, cap, cur.setIfInBounds (i * 8 + j) u, by rw [List.length_set, h1], h2, heap_setCell_same w g (i * 8 + j) _ _ u h3, by rw [List.length_set]; exact h4, h5, by rw [Array.size_setIfInBounds]; exact h6, ?_⟩
    rw [← os_set l i j x y u hi hj hy, List.length_set, ← h7, Array.toList_setIfInBounds, List.take_set]
theorem OsAt.putAll {w : World} {base g len cap : Nat} {l : List Ord} (h : OsAt w base (.slice (some ⟨g, 0, none⟩) len cap) l) (i : Nat) (x y : Ord) (hi : l[i]? = some x) :
    OsAt (w.setCells g (i * 8) (ordL 0 0 y)) base (.slice (some ⟨g, 0, none⟩) len cap) (l.set i y) := by
  have hlt := (List.getElem?_eq_some_iff.1 hi).1
  have hg : ∀ z, (l.set i z)[i]? = some z := fun z => by rw [List.getElem?_set, if_pos rfl, if_pos hlt]
  rw [set8]
  have a0 := h.put i 0 x x (.int .i64 ((0 : Nat) : Int)) hi (by omega) rfl
  have a1 := a0.put i 1 x x (.int .i64 ((0 : Nat) : Int)) (hg _) (by omega) rfl
  have a2 := a1.put i 2 x { x with ref := y.ref } (.int .u32 y.ref) (by rw [List.set_set]; exact hg _) (by omega) rfl
  have a3 := a2.put i 3 { x with ref := y.ref } { x with ref := y.ref, token := y.token } (.int .u32 y.token) (by simp only [List.set_set]; exact hg _) (by omega) rfl
  have a4 := a3.put i 4 { x with ref := y.ref, token := y.token } { x with ref := y.ref, token := y.token, side := y.side } (.int .u8 y.side.toNat) (by simp only [List.set_set]; exact hg _) (by omega) rfl
  have a5 := a4.put i 5 { x with ref := y.ref, token := y.token, side := y.side } { x with ref := y.ref, token := y.token, side := y.side, stock := y.stock } (.int .u8 y.stock) (by simp only [List.set_set]; exact hg _) (by omega) rfl
  have a6 := a5.put i 6 { x with ref := y.ref, token := y.token, side := y.side, stock := y.stock } { x with ref := y.ref, token := y.token, side := y.side, stock := y.stock, price := y.price } (.int .u16 y.price) (by simp only [List.set_set]; exact hg _) (by omega) rfl
  have a7 := a6.put i 7 { x with ref := y.ref, token := y.token, side := y.side, stock := y.stock, price := y.price } y (.int .u16 y.shares) (by simp only [List.set_set]; exact hg _) (by omega) rfl
  simp only [List.set_set] at a7
  exact a7
theorem OsAt.keep {w w' : World} {base : Nat} {v : Value} {l : List Ord} (h : OsAt w base v l) (hk : ∀ g, v.ownBlock = some g → w'.heap[g]? = w.heap[g]?) : OsAt w' base v l := ownsRow_keep h hk

/-- A 'rebuilt' in memory: at block r, its orders, its map. -/
structure RbC (w : World) (base r : Nat) (L : List Ord) (v : Value) (pm n : Nat) (M : Nat → Option Nat) : Prop where
  blk : w.heap[r]? = some (.cells #[v, .map (some pm)] 94)
  row : OsAt w base v L
  map : IsM w pm n M
  br : base ≤ r
  bp : base ≤ pm
  ne : r ≠ pm
  nr : v.ownBlock ≠ some r
  np : v.ownBlock ≠ some pm

theorem RbC.keep {w w' : World} {base r : Nat} {L : List Ord} {v : Value} {pm n : Nat} {M : Nat → Option Nat} (h : RbC w base r L v pm n M) (hk : ∀ k, base ≤ k → k < w.heap.size → w'.heap[k]? = w.heap[k]?) : RbC w' base r L v pm n M := by
  have hr : r < w.heap.size := (Array.getElem?_eq_some_iff.1 h.blk).1
  refine ⟨(hk r h.br hr).trans h.blk, h.row.keep (fun g hg => ?_), h.map.keep (hk pm h.bp h.map.lt), h.br, h.bp, h.ne, h.nr, h.np⟩
  have := World.ownsRow.lt h.row g hg
  exact hk g this.1 this.2
theorem RbC.alloc {w : World} {base r : Nat} {L : List Ord} {v : Value} {pm n : Nat} {M : Nat → Option Nat} (h : RbC w base r L v pm n M) (O : Obj) : RbC (w.alloc O) base r L v pm n M :=
  h.keep (fun k _ hk => by rw [heap_alloc, if_neg (by omega)])
theorem RbC.drewN {w : World} {base r : Nat} {L : List Ord} {v : Value} {pm n : Nat} {M : Nat → Option Nat} (h : RbC w base r L v pm n M) (q : Nat) : RbC (w.drewN q) base r L v pm n M := h.keep (fun _ _ _ => rfl)
theorem RbC.cells {w : World} {base r : Nat} {L : List Ord} {v : Value} {pm n : Nat} {M : Nat → Option Nat} (h : RbC w base r L v pm n M) : w.cell? ⟨r, 0, none⟩ = some v ∧ w.cell? ⟨r, 1, none⟩ = some (.map (some pm)) ∧ w.frozen? ⟨r, 0, none⟩ = false ∧ r < w.heap.size :=
  ⟨cell_of_row w r 0 _ _ (0, 0) h.blk, cell_of_row w r 1 _ _ (0, 0) h.blk, by simp [World.frozen?, h.blk], (Array.getElem?_eq_some_iff.1 h.blk).1⟩
/-- A change of the map alone. -/
theorem RbC.turnM {w w' : World} {base r : Nat} {L : List Ord} {v : Value} {pm n n' : Nat} {M M' : Nat → Option Nat} (h : RbC w base r L v pm n M) (hf : Fr (fun k => k = pm) w w') (hm : IsM w' pm n' M') : RbC w' base r L v pm n' M' := by
  have hr : r < w.heap.size := (Array.getElem?_eq_some_iff.1 h.blk).1
  refine ⟨(hf.block r hr h.ne).trans h.blk, h.row.keep (fun g hg => hf.block g (World.ownsRow.lt h.row g hg).2 (fun e => h.np (e ▸ hg))), hm, h.br, h.bp, h.ne, h.nr, h.np⟩
/-- A change of the row alone, in its place. -/
theorem RbC.turnR {w w' : World} {base r : Nat} {L L' : List Ord} {v : Value} {pm n g : Nat} {M : Nat → Option Nat} (h : RbC w base r L v pm n M) (hg : v.ownBlock = some g) (hf : Fr (fun k => k = g) w w') (ho : OsAt w' base v L') : RbC w' base r L' v pm n M := by
  have hr : r < w.heap.size := (Array.getElem?_eq_some_iff.1 h.blk).1
  refine ⟨(hf.block r hr (fun e => h.nr (by rw [hg, e]))).trans h.blk, ho, h.map.keep (hf.block pm h.map.lt (fun e => h.np (by rw [hg, e]))), h.br, h.bp, h.ne, h.nr, h.np⟩
theorem Fr.belowB {g base : Nat} {w w' : World} (h : Fr (fun k => k = g) w w') (hb : base ≤ w.heap.size) (hg : base ≤ g) : Below base w w' := h.below hb (fun k e => by omega)

theorem RbC.mk' {w : World} {base r : Nat} {L : List Ord} {v : Value} {pm n : Nat} {M : Nat → Option Nat} (h1 : w.heap[r]? = some (.cells #[v, .map (some pm)] 94)) (h2 : OsAt w base v L) (h3 : IsM w pm n M) (h4 : base ≤ r) (h5 : base ≤ pm) : RbC w base r L v pm n M := by
  have hm : ∃ es cl, w.heap[pm]? = some (.map es cl) := by
    obtain ⟨D, ⟨es, cl, hb, -⟩, -⟩ := h3
    exact ⟨es, cl, hb⟩
  obtain ⟨es, cl, hm⟩ := hm
  have hr : ∀ g, v.ownBlock = some g → ∃ cur, w.heap[g]? = some (.cells cur 129) := by
    intro g hg
    rcases h2.2 with ⟨e, -⟩ | ⟨g', cap, cur, e, -, e3, -⟩
    · rw [e] at hg; cases hg
    · rw [e] at hg
      cases hg
      exact ⟨cur, e3⟩
  refine ⟨h1, h2, h3, h4, h5, fun e => ?_, fun e => ?_, fun e => ?_⟩
  · rw [e, hm] at h1; cases h1
  · obtain ⟨cur, hc⟩ := hr _ e
    rw [h1] at hc
    simp at hc
  · obtain ⟨cur, hc⟩ := hr _ e
    rw [hm] at hc
    cases hc

end Go.Proofs.Ytphkchjejbffeaa

/- Appends in regions that draw their order. -/
namespace Go.Proofs.Ytphkchjejbffeaa
open Go.RowKit

theorem step_append_row {w : World} {ops : Array Oper} {o : Oper} {a : Go.Act} {K : Go.Act → World → Prop} {Q : Exit → Go.Act → World → Prop} {E : Prop} (hgd : o.guard = none) (s x : Operand) (t : TypeId)
    (ho : o.op = .call { callee := .builtin .append, args := #[s, x], argTypes := #[t, t] })
    (base : Nat) (e : TypeId) (i : TypeInfo) (z : Value) (size bytes : Nat) (ht : Try.prog.underlying t = some (.slice e)) (hi : Try.prog.info? e = some i) (hz : i.zero = some z)
    (hsize : i.size = size) (hby : i.bytes = bytes) (hzs : z.cells.size = size) (hsz : 0 < size)
    (vo : Value) (n : Nat) (xs : List Value) (hs : a.eval s = vo) (hown : w.ownsRow base e size vo n xs) (ad : Addr) (m c : Nat) (ys : List Value) (hx : a.eval x = .slice (some ad) m c) (hl : ys.length = m * size) (hy : ∀ j u, ys[j]? = some u → w.cell? (ad.add j) = some u) (h1 : ∀ u ∈ ys, u.oneCell' = true)
    (h63 : n + m ≤ maxLen) (hbytes : (n + m) * bytes ≤ 140737488355328) (hbase : base ≤ w.heap.size)
    (h : ∀ ra cap w', Hid (w'.ownsRow base e size (.slice ra (n + m) cap) (n + m) (xs ++ ys)) → Hid (w.grownBy w' vo.ownBlock) → K (a.put o.dst (.slice ra (n + m) cap)) w') :
    if Region.wanted o (yielded ops a.tmps) = true then Oper.wp Try.prog o a w K Q else E := by
  have hw : Region.wanted o (yielded ops a.tmps) = true := by simp [Region.wanted, hgd]
  rw [if_pos hw]
  obtain ⟨v', w', hr, h2, h3, h4, h5⟩ := run_append_own_at (P := Try.prog) w base t o.type e i z size bytes ht hi hz hsize hby hzs hsz vo n xs hown ad m c ys hl hy h1 h63 hbytes hbase
  obtain ⟨ra, cap, rfl, _, _⟩ := ownsRow_len h2
  unfold Oper.wp execOp
  simp only [ho, resolve, invoke, builtin, Sem.run_bind, Sem.run_pure, Result.andThen_ok, List.map_toArray, List.map_cons, List.map_nil, hs, hx, hr]
  exact h ra cap w' h2 h3

/-- What is appended to leaves what was there as it was. -/
theorem run_append_keep {w : World} {base g n cap : Nat} {t ty e : TypeId} {i : TypeInfo} {z : Value} {size bytes : Nat} (ht : Try.prog.underlying t = some (.slice e)) (hi : Try.prog.info? e = some i) (hz : i.zero = some z)
    (hsize : i.size = size) (hby : i.bytes = bytes) (hzs : z.cells.size = size) (hsz : 0 < size) {xs : List Value} (hown : w.ownsRow base e size (.slice (some ⟨g, 0, none⟩) n cap) n xs)
    {ad : Addr} {m c : Nat} {ys : List Value} (hl : ys.length = m * size) (hy : ∀ j u, ys[j]? = some u → w.cell? (ad.add j) = some u) (h1 : ∀ u ∈ ys, u.oneCell' = true)
    (h63 : n + m ≤ maxLen) (hbytes : (n + m) * bytes ≤ 140737488355328) (hbase : base ≤ w.heap.size) :
    ∃ v' w', (Builtin.append_ #[t, t] ty #[.slice (some ⟨g, 0, none⟩) n cap, .slice (some ad) m c]).run Try.prog w = .ok v' w' ∧ w'.ownsRow base e size v' (n + m) (xs ++ ys) ∧ w.grownBy w' (some g) ∧ ∀ j u, xs[j]? = some u → w'.cell? ⟨g, j, none⟩ = some u := by
  obtain ⟨v', w', hr, h2, h3, h4, h5⟩ := run_append_own_at (P := Try.prog) w base t ty e i z size bytes ht hi hz hsize hby hzs hsz _ n xs hown ad m c ys hl hy h1 h63 hbytes hbase
  refine ⟨v', w', hr, h2, h3, ?_⟩
  rcases hown.2 with ⟨h, -⟩ | ⟨g', cap', cur, h, hbg, hg, hnc, hcm, hcs, htake⟩
  · simp at h
  · simp only [Value.slice.injEq, Option.some.injEq, Addr.mk.injEq, and_true, true_and] at h
    obtain ⟨rfl, rfl⟩ := h
    intro j u hu
    by_cases hroom : n + m ≤ cap
    · have hfit : n * i.size + ys.length ≤ cur.size := by rw [hl, hcs, hsize, ← Nat.add_mul]; exact Nat.mul_le_mul_right _ hroom
      have hr2 := run_append_room (P := Try.prog) w t ty e i ht hi g n cap cur hg ad m c ys (by rw [hsize]; exact hl) hy h1 hroom hfit
      rw [hr] at hr2
      obtain ⟨e1, e2⟩ := Result.ok.inj hr2
      have := h2.cells (g := g) (by rw [e1]; rfl) j u (by rw [List.getElem?_append_left (List.getElem?_eq_some_iff.1 hu).1]; exact hu)
      rwa [Addr.add_lit, Nat.zero_add] at this
    · have holds : ∀ j u, xs[j]? = some u → w.cell? ((⟨g, 0, none⟩ : Addr).add j) = some u := hown.cells (g := g) rfl
      have hr2 := run_append_grow (P := Try.prog) w t ty e i z ht hi hz ⟨g, 0, none⟩ n cap xs (by rw [hsize]; exact hown.1) holds ad m c ys (by rw [hsize]; exact hl) hy (by omega) (by unfold maxLen at h63; omega) (growslice_fits (by omega) (by rw [hby]; exact hbytes))
      rw [hr] at hr2
      obtain ⟨e1, e2⟩ := Result.ok.inj hr2
      have hc := holds j u hu
      rw [Addr.add_lit, Nat.zero_add] at hc
      rw [← hc, e2]
      have hgl : g < w.heap.size := (Array.getElem?_eq_some_iff.1 hg).1
      exact World.cell?_of_block (a := ⟨g, j, none⟩) (by show (w.drew.alloc _).heap[g]? = _; rw [heap_alloc, if_neg (by show g ≠ w.heap.size; omega)]; rfl)

theorem step_append_keep {w : World} {ops : Array Oper} {o : Oper} {a : Go.Act} {K : Go.Act → World → Prop} {Q : Exit → Go.Act → World → Prop} {E : Prop} (hgd : o.guard = none) (s x : Operand) (t : TypeId)
    (ho : o.op = .call { callee := .builtin .append, args := #[s, x], argTypes := #[t, t] })
    (base : Nat) (e : TypeId) (i : TypeInfo) (z : Value) (size bytes : Nat) (ht : Try.prog.underlying t = some (.slice e)) (hi : Try.prog.info? e = some i) (hz : i.zero = some z)
    (hsize : i.size = size) (hby : i.bytes = bytes) (hzs : z.cells.size = size) (hsz : 0 < size)
    (g n cap : Nat) (xs : List Value) (hs : a.eval s = .slice (some ⟨g, 0, none⟩) n cap) (hown : w.ownsRow base e size (.slice (some ⟨g, 0, none⟩) n cap) n xs) (ad : Addr) (m c : Nat) (ys : List Value) (hx : a.eval x = .slice (some ad) m c) (hl : ys.length = m * size) (hy : ∀ j u, ys[j]? = some u → w.cell? (ad.add j) = some u) (h1 : ∀ u ∈ ys, u.oneCell' = true)
    (h63 : n + m ≤ maxLen) (hbytes : (n + m) * bytes ≤ 140737488355328) (hbase : base ≤ w.heap.size)
    (h : ∀ ra cap' w', Hid (w'.ownsRow base e size (.slice ra (n + m) cap') (n + m) (xs ++ ys)) → Hid (w.grownBy w' (some g) ∧ ∀ j u, xs[j]? = some u → w'.cell? ⟨g, j, none⟩ = some u) → K (a.put o.dst (.slice ra (n + m) cap')) w') :
    if Region.wanted o (yielded ops a.tmps) = true then Oper.wp Try.prog o a w K Q else E := by
  have hw : Region.wanted o (yielded ops a.tmps) = true := by simp [Region.wanted, hgd]
  rw [if_pos hw]
  obtain ⟨v', w', hr, h2, h3, h4⟩ := run_append_keep (ty := o.type) (c := c) ht hi hz hsize hby hzs hsz hown hl hy h1 h63 hbytes hbase
  obtain ⟨ra, cap', rfl, _, _⟩ := ownsRow_len h2
  unfold Oper.wp execOp
  simp only [ho, resolve, invoke, builtin, Sem.run_bind, Sem.run_pure, Result.andThen_ok, List.map_toArray, List.map_cons, List.map_nil, hs, hx, hr]
  exact h ra cap' w' h2 ⟨h3, h4⟩

end Go.Proofs.Ytphkchjejbffeaa
