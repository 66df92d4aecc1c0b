/- The walk of Feed. -/
import Derived.Test.YtphkchjejbffeaaG14
import Derived.WalkMore
import Derived.Deep.RegionHeld3
import Derived.Deep.DrawnRows
namespace Go.Proofs.Ytphkchjejbffeaa
open Go.RowKit
attribute [local go_sem ↓] Go.wp_at_zero Go.wp_at_succ

/-- What holds whenever the next message is looked for. -/
def FedJ (w : World) (b : Nat) (c : BC) (k : SK) (fin : St) (v : Value) (wr : World) : Prop :=
  ∃ cc stc l, Rel wr b cc k stc ∧ Inb cc stc ∧ Rd wr (GB b cc k) v l ∧ stc.feed l = fin ∧ Fr (GB b c k) w wr ∧ (∀ j, GB b cc k j → GB b c k j ∨ w.heap.size ≤ j)

def FedK (w : World) (b : Nat) (c : BC) (k : SK) (fin : St) (a' : Go.Act) (w' : World) : Prop := ∃ (v' u2 u3 u4 u5 u6 u7 u8 u9 u10 u11 u12 u13 u14 u15 u16 u17 u18 u19 u20 u21 u22 u23 u24 u25 u26 u27 : Value), a' = { tmps := #[.pointer (some ⟨b, 0, none⟩), v', u2, u3, u4, u5, u6, u7, u8, u9, u10, u11, u12, u13, u14, u15, u16, u17, u18, u19, u20, u21, u22, u23, u24, u25, u26, u27], defers := [] } ∧ Hid (FedJ w b c k fin v' w')

theorem Fed.after {w wr w' : World} {b : Nat} {c cc : BC} {k : SK} {st : St} (hf : Fr (GB b c k) w wr) (hs : ∀ j, GB b cc k j → GB b c k j ∨ w.heap.size ≤ j) (h : Fed wr b cc k w' st) : Fed w b c k w' st := by
  obtain ⟨c', h1, h2, h3, h4⟩ := h
  refine ⟨c', h1, h2, hf.trans h3 (fun i hi hg => (hs i hg).elim id (fun e => by omega)), fun j hj => ?_⟩
  rcases h4 j hj with e | e
  · exact hs j e
  · exact Or.inr (Nat.le_trans hf.size e)

theorem Rd.lenV {w : World} {F : Nat → Prop} {v : Value} {l : List UInt8} (h : Rd w F v l) : lenV v = l.length := by
  rcases h with ⟨rfl, rfl⟩ | ⟨g, o, cap, rfl, -⟩
  · rfl
  · rfl

set_option maxRecDepth 100000 in
set_option maxHeartbeats 1000000 in
theorem feed_any (b : Nat) (c : BC) (k : SK) (st : St) (v : Value) (l : List UInt8) (w : World) (h : Rel w b c k st) (hi : Inb c st) (hrd : Rd w (GB b c k) v l) (ha : (st.feed l).ans.length ≤ big) (ht : (st.feed l).tape.length ≤ big) :
    Calls Try.prog 12 #[.pointer (some ⟨b, 0, none⟩), v] w fun e w' => e = .returned (.tuple #[]) ∧ Fed w b c k w' (st.feed l) := by
  have HJ : Hid (FedJ w b c k (st.feed l) v w) := ⟨c, st, l, h, hi, hrd, rfl, Fr.refl _ _, fun _ e => Or.inl e⟩
  have HL := Hid.mk (And.intro ha ht)
  generalize st.feed l = fin at HJ HL ⊢
  clear h hi hrd ha ht
  go_enter Try.func12, Try.ntmps12
  go_wp2_with fail
  refine wp_scope_label 0 (FedK w b c k fin) (fun a' _ => lenV (a'.tmps.getD 1 undef)) ⟨v, _, _, _, _, _, _, _, _, _, _, _, _, _, _, _, _, _, _, _, _, _, _, _, _, _, _, rfl, HJ⟩ ?_
  clear HJ v l
  rintro a' wr ⟨v, u2, u3, u4, u5, u6, u7, u8, u9, u10, u11, u12, u13, u14, u15, u16, u17, u18, u19, u20, u21, u22, u23, u24, u25, u26, u27, rfl, HJ⟩
  obtain ⟨cc, stc, l, h, hi, hrd, hfin, hfr, hsub⟩ := HJ.out
  have g0 : wr.cell? ⟨b, 0, none⟩ = some (.bool cc.opn) := by rw [h.B.cell]; exact (cc.get h.B.len).1
  have HR := Hid.mk h
  have HI := Hid.mk hi
  have HD := Hid.mk hrd
  have HE := Hid.mk hfin
  have HF := Hid.mk (And.intro hfr hsub)
  clear h hi hrd hfin hfr hsub HJ
  generalize hop : cc.opn = op at g0
  have HO := Hid.mk hop
  clear hop
  cases op with
  | false =>
    have HX : Hid (Fed w b c k wr fin) := by
      have e : stc.feed l = stc := feed_shut l stc (by rw [← HI.out.opn]; exact HO.out)
      have := HE.out
      rw [e] at this
      subst this
      exact ⟨cc, HR.out, HI.out, HF.out.1, HF.out.2⟩
    go_wp2_with fail
    simp only [Exit.jump]
    refine bodyPost_ret (results_none rfl _ _ _) rfl ?_
    exact ⟨rfl, HX.out⟩
  | true =>
    go_wp2_with fail
    refine (gather_any (GB b cc k) b (Or.inl rfl) cc v l wr HR.out.B HD.out HI.out.less).mono ?_
    rintro e w1 ⟨v1, whole, n, bytes', rfl, hG⟩
    have HG := Hid.mk hG
    clear hG
    cases whole with
    | false =>
      have HX : Hid (Fed w b c k w1 fin) := by
        have := fed_less HR.out HI.out HO.out HG.out
        rw [HE.out] at this
        exact this.after HF.out.1 HF.out.2
      go_wp2_with fail
      simp only [Exit.jump]
      refine bodyPost_ret (results_none rfl _ _ _) rfl ?_
      exact ⟨rfl, HX.out⟩
    | true =>
      obtain ⟨lz, hlz⟩ : ∃ lz, cc.have_ + n = lz := ⟨_, rfl⟩
      have HM : Hid (Calls Try.prog 30 #[.pointer (some ⟨b, 2, none⟩)] w1 fun e w' => e = .returned (.slice (some ⟨b, 2, none⟩) lz 13) ∧ IsB w' b { cc with bytes := bytes', have_ := 0 } ∧ Fr (fun k => k = b) w1 w') := by
        show Calls _ _ _ _ _
        rw [← hlz]
        exact inbox_message b _ w1 HG.out.isB (by have := (HG.out.yes rfl).2.1; have := size_pos (byteAt bytes' 0); show cc.have_ + n ≤ 13; omega)
      have HLZ := Hid.mk hlz
      clear hlz
      go_wp2_with fail
      refine HM.out.mono ?_
      rintro e w2 ⟨rfl, hB2, hf2⟩
      obtain ⟨m, m1, m2, m3, m4, m5, m6, m7, m8, m9⟩ := fed_whole HR.out HI.out HO.out HG.out hB2 hf2
      have hml : m.length = lz := m1.trans HLZ.out
      have hmon := mon_feed l stc
      rw [HE.out] at hmon
      have HDO := Hid.mk (do_any b _ k _ m w2 m6 m3 m2 (Nat.le_trans hmon.ans.length_le HL.out.1) (Nat.le_trans hmon.tape.length_le HL.out.2))
      rw [hml] at HDO
      have HMs := Hid.mk (And.intro m4 (And.intro m5 (And.intro m7 (And.intro m8 m9))))
      clear hB2 hf2 m1 m2 m3 m4 m5 m6 m7 m8 m9 hml hmon HM
      go_wp2_with fail
      refine HDO.out.mono ?_
      rintro e w3 ⟨rfl, hd⟩
      have HN : Hid (FedJ w b c k fin v1 w3 ∧ lenV v1 < lenV v) := by
        obtain ⟨c3, r1, r2, r3⟩ := hd
        obtain ⟨m4, m5, m7, m8, m9⟩ := HMs.out
        have hsub : ∀ j, GB b c3 k j → GB b cc k j ∨ w2.heap.size ≤ j := fun j hj => (r2.sub j hj).imp (m8 j) id
        have hfr := r2.fr.mono (fun j _ e => m8 j e)
        refine ⟨⟨c3, _, l.drop n, r1, ⟨?_, ?_, ?_, Or.inl r2.have_⟩, m9.move hfr hsub, ?_, ?_, ?_⟩, ?_⟩
        · rw [r3, act_opn]
          show (if _ then cc.opn else false) = if _ then stc.opn else false
          rw [HI.out.opn]
        · rw [act_part, r2.have_]
          rfl
        · rw [act_part, r2.have_]
          rfl
        · rw [← m4, ← feed_append, List.take_append_drop]
          exact HE.out
        · exact HF.out.1.trans (m7.trans hfr (fun _ _ e => e)) (fun i hi hg => (HF.out.2 i hg).elim id (fun e => by omega))
        · intro j hj
          rcases hsub j hj with e | e
          · exact HF.out.2 j e
          · exact Or.inr (Nat.le_trans HF.out.1.size (Nat.le_trans m7.size e))
        · rw [HD.out.lenV, m9.lenV, List.length_drop]
          have := HG.out.le
          omega
      clear hd HDO HMs
      go_wp2_with fail
      go_step3
      exact ⟨rfl, ⟨v1, _, _, _, _, _, _, _, _, _, _, _, _, _, _, _, _, _, _, _, _, _, _, _, _, _, _, rfl, HN.out.1⟩, HN.out.2⟩

end Go.Proofs.Ytphkchjejbffeaa

/- Look. -/
namespace Go.Proofs.Ytphkchjejbffeaa
open Go.RowKit
attribute [local go_sem ↓] Go.wp_at_zero Go.wp_at_succ

set_option maxRecDepth 100000 in
set_option maxHeartbeats 600000 in
theorem look_any (b : Nat) (c : BC) (k : SK) (st : St) (w : World) (h : Rel w b c k st) (hi : Inb c st) :
    Calls Try.prog 17 #[.pointer (some ⟨b, 0, none⟩)] w fun e w' => e = .returned (viewOf st) ∧ Below w.heap.size w w' := by
  obtain ⟨M, od, ps, fl, hbk, hM, hF⟩ := h.ex
  obtain ⟨free, fs, ls, bef, aft, hIs, hLk⟩ := hbk.ex
  have HRS := Hid.mk (fun w' (hw : w'.heap[k.bk]? = w.heap[k.bk]?) => resting_any k.bk (k.kc free st.resting) w' ⟨hw.trans hIs.K.blk⟩)
  have g0 : w.cell? ⟨b, 0, none⟩ = some (.bool c.opn) := by rw [h.B.cell]; exact (c.get h.B.len).1
  have g1 : w.cell? ⟨b, 1, none⟩ = some (.int .u64 c.time) := by rw [h.B.cell]; exact (c.get h.B.len).2.1
  have g15 : w.cell? ⟨b, 15, none⟩ = some (.int .i64 c.have_) := by rw [h.B.cell]; exact (c.get h.B.len).2.2.1
  have g19 : w.cell? ⟨b, 19, none⟩ = some (.pointer (some ⟨k.bk, 0, none⟩)) := by rw [h.B.cell, ← h.bk]; exact (c.get h.B.len).2.2.2.2.2.2.1
  have HV : Hid (viewOf st = .agg #[.int .i64 c.time, .int .i64 st.resting, .bool c.opn, .int .i64 c.have_]) := by
    show _ = _
    unfold viewOf
    rw [← h.time, ← hi.opn, hi.len]
  have t1 := h.tm
  have w1 : IntKind.i64.wrap (c.time : Int) = (c.time : Int) := by
    have := h.time
    have := h.inv.time
    rw [IntKind.wrap_i64]
    omega
  have HKL := Hid.mk hIs.K.lt
  generalize st.resting = r at *
  clear h hi hbk hM hF hIs hLk t1
  go_enter Try.func17, Try.ntmps17
  go_wp2_with fail
  have hbl : b < w.heap.size := World.block_lt_of_cell? w _ g0
  have hkl := HKL.out
  generalize hW : w.alloc (Obj.cells #[Value.int IntKind.i64 0, Value.int IntKind.i64 0, Value.bool false, Value.int IntKind.i64 0] 37) = W
  have hF : Fr (fun _ => False) w W := by rw [← hW]; exact Fr.alloc _ _ _
  have HBW : Hid (Below w.heap.size w W) := by
    show Below _ _ _
    rw [← hW]; exact (Below.refl _ _).alloc (Nat.le_refl _) _
  have hbx : W.heap[w.heap.size]? = some (Obj.cells #[Value.int IntKind.i64 0, Value.int IntKind.i64 0, Value.bool false, Value.int IntKind.i64 0] 37) := by rw [← hW, heap_alloc, if_pos rfl]
  clear hW
  have q0 := hF.cell g0 (fun e => e)
  have q1 := hF.cell g1 (fun e => e)
  have q15 := hF.cell g15 (fun e => e)
  have q19 := hF.cell g19 (fun e => e)
  have HC : Hid (∀ W', W'.heap = W.heap → Calls Try.prog 32 #[.pointer (some ⟨k.bk, 0, none⟩)] W' fun e w' => e = .returned (.int .i64 r) ∧ w' = W') := fun W' e => HRS.out W' (by rw [e]; exact hF.block k.bk hkl (fun e => e))
  obtain ⟨g, hg⟩ : ∃ g, w.heap.size = g := ⟨_, rfl⟩
  have x0 : W.drew.cell? ⟨g, 0, none⟩ = some (.int .i64 0) := by rw [← hg]; exact cell_of_row _ _ 0 _ _ (0, 0) hbx
  have x1 : W.drew.cell? ⟨g, 1, none⟩ = some (.int .i64 0) := by rw [← hg]; exact cell_of_row _ _ 1 _ _ (0, 0) hbx
  have x2 : W.drew.cell? ⟨g, 2, none⟩ = some (.bool false) := by rw [← hg]; exact cell_of_row _ _ 2 _ _ (0, 0) hbx
  have x3 : W.drew.cell? ⟨g, 3, none⟩ = some (.int .i64 0) := by rw [← hg]; exact cell_of_row _ _ 3 _ _ (0, 0) hbx
  have fo : ∀ j, W.drew.frozen? ⟨g, j, none⟩ = false := fun j => by rw [← hg]; show W.frozen? _ = false; simp [World.frozen?, hbx]
  have f0 := fo 0
  have f1 := fo 1
  have f2 := fo 2
  have f3 := fo 3
  rw [hg] at hbx HBW ⊢
  have HBX := Hid.mk hbx
  have HG := Hid.mk hg
  have hbg : b < g := by rw [← hg]; exact hbl
  have hbn : ¬ b = g := by omega
  have hbn2 : ¬ g = b := by omega
  have HS := Hid.mk (And.intro q0 (And.intro q1 (And.intro q15 q19)))
  clear fo hbx hF g0 g1 g15 g19 HRS hbl hkl hg HKL
  go_region_held3 (fun w' => w'.cell? ⟨b, 0, none⟩ = some (.bool c.opn) ∧ w'.cell? ⟨b, 1, none⟩ = some (.int .u64 c.time) ∧ w'.cell? ⟨b, 15, none⟩ = some (.int .i64 c.have_) ∧ w'.cell? ⟨b, 19, none⟩ = some (.pointer (some ⟨k.bk, 0, none⟩))) (first | with_reducible exact m1 | go_keep)
    ((go_at_call 32; refine (HC.out W.drew rfl).mono ?_; rintro e w2 ⟨rfl, hw⟩; have m1 : w2.cell? ⟨b, 0, none⟩ = some (.bool c.opn) ∧ w2.cell? ⟨b, 1, none⟩ = some (.int .u64 c.time) ∧ w2.cell? ⟨b, 15, none⟩ = some (.int .i64 c.have_) ∧ w2.cell? ⟨b, 19, none⟩ = some (.pointer (some ⟨k.bk, 0, none⟩)) := (by rw [hw]; exact HS.out); have y0 : w2.cell? ⟨g, 0, none⟩ = some (.int .i64 0) := (by rw [hw]; exact x0); have y1 : w2.cell? ⟨g, 1, none⟩ = some (.int .i64 0) := (by rw [hw]; exact x1); have y2 : w2.cell? ⟨g, 2, none⟩ = some (.bool false) := (by rw [hw]; exact x2); have y3 : w2.cell? ⟨g, 3, none⟩ = some (.int .i64 0) := (by rw [hw]; exact x3); have e0 : w2.frozen? ⟨g, 0, none⟩ = false := (by rw [hw]; exact f0); have e1 : w2.frozen? ⟨g, 1, none⟩ = false := (by rw [hw]; exact f1); have e2 : w2.frozen? ⟨g, 2, none⟩ = false := (by rw [hw]; exact f2); have e3 : w2.frozen? ⟨g, 3, none⟩ = false := (by rw [hw]; exact f3); have HW := Hid.mk hw; clear hw))
  have hbx2 : w2.heap[g]? = _ := (show w2.heap[g]? = W.heap[g]? by rw [HW.out]; rfl).trans HBX.out
  have hfin : ((((w2.setCell ⟨g, 0, none⟩ (.int .i64 c.time)).setCell ⟨g, 1, none⟩ (.int .i64 r)).setCell ⟨g, 2, none⟩ (.bool c.opn)).setCell ⟨g, 3, none⟩ (.int .i64 c.have_)).heap[g]? = some (.cells #[.int .i64 c.time, .int .i64 r, .bool c.opn, .int .i64 c.have_] 37) := by
    rw [heap_setCell_same _ g 3 _ _ _ (heap_setCell_same _ g 2 _ _ _ (heap_setCell_same _ g 1 _ _ _ (heap_setCell_same _ g 0 _ _ _ hbx2)))]
    rfl
  have hfr : Fr (fun j => j = g) w2 ((((w2.setCell ⟨g, 0, none⟩ (.int .i64 c.time)).setCell ⟨g, 1, none⟩ (.int .i64 r)).setCell ⟨g, 2, none⟩ (.bool c.opn)).setCell ⟨g, 3, none⟩ (.int .i64 c.have_)) := (Fr.setCell w2 ⟨g, 0, none⟩ _).trans ((Fr.setCell _ ⟨g, 1, none⟩ _).trans ((Fr.setCell _ ⟨g, 2, none⟩ _).trans (Fr.setCell _ ⟨g, 3, none⟩ _) (fun _ _ e => e)) (fun _ _ e => e)) (fun _ _ e => e)
  have HBL : Hid (Below w.heap.size w ((((w2.setCell ⟨g, 0, none⟩ (.int .i64 c.time)).setCell ⟨g, 1, none⟩ (.int .i64 r)).setCell ⟨g, 2, none⟩ (.bool c.opn)).setCell ⟨g, 3, none⟩ (.int .i64 c.have_))) := by
    have h1 : Fr (fun j => j = g) w W := Fr.of_below (by rw [HG.out]; exact HBW.out) _
    have h2 : Fr (fun j => j = g) W w2 := by rw [HW.out]; exact Fr.drew _ _
    exact ((h1.trans h2 (fun _ _ e => e)).trans hfr (fun _ _ e => e)).below (Nat.le_refl _) (fun j e => by rw [HG.out]; exact Nat.le_of_eq e.symm)
  generalize ((((w2.setCell ⟨g, 0, none⟩ (.int .i64 c.time)).setCell ⟨g, 1, none⟩ (.int .i64 r)).setCell ⟨g, 2, none⟩ (.bool c.opn)).setCell ⟨g, 3, none⟩ (.int .i64 c.have_)) = w9 at hfin HBL ⊢
  have u0 : w9.cell? ⟨g, 0, none⟩ = some (.int .i64 c.time) := cell_of_row _ _ 0 _ _ (0, 0) hfin
  have u1 : w9.cell? ⟨g, 1, none⟩ = some (.int .i64 r) := cell_of_row _ _ 1 _ _ (0, 0) hfin
  have u2 : w9.cell? ⟨g, 2, none⟩ = some (.bool c.opn) := cell_of_row _ _ 2 _ _ (0, 0) hfin
  have u3 : w9.cell? ⟨g, 3, none⟩ = some (.int .i64 c.have_) := cell_of_row _ _ 3 _ _ (0, 0) hfin
  clear hfin hfr hbx2 m1 y0 y1 y2 y3 e0 e1 e2 e3 x0 x1 x2 x3 f0 f1 f2 f3 q0 q1 q15 q19
  go_wp2_with fail
  exact bodyPost_ret (v := .agg #[.int .i64 c.time, .int .i64 r, .bool c.opn, .int .i64 c.have_]) (by simp [results, Try.results17, go_sem, u0, u1, u2, u3]) rfl ⟨by rw [HV.out], HBL.out⟩

end Go.Proofs.Ytphkchjejbffeaa

/- Book. -/
namespace Go.Proofs.Ytphkchjejbffeaa
open Go.RowKit
attribute [local go_sem ↓] Go.wp_at_zero Go.wp_at_succ

theorem Try.infoApi : (Try.prog.info? 46).map (fun i => (i.zero, i.size, i.bytes)) = some (some (.agg #[.int .i64 0, .int .i64 0, .int .u8 0, .int .i64 0, .int .i64 0, .int .i64 0]), 6, 48) := by kernel_rfl
theorem und_api : Try.prog.underlying 42 = some (.slice 46) := by kernel_rfl

theorem flat_getG {α : Type} (f : α → List Value) (n : Nat) (hn : ∀ x, (f x).length = n) (l : List α) (i j : Nat) (x : α) (u : Value) (hi : l[i]? = some x) (hj : j < n) (hu : (f x)[j]? = some u) : (l.flatMap f)[i * n + j]? = some u := by
  induction l generalizing i with
  | nil => simp at hi
  | cons y l ih =>
    rw [List.flatMap_cons]
    cases i with
    | zero =>
      simp at hi
      subst hi
      rw [Nat.zero_mul, Nat.zero_add, List.getElem?_append_left (by rw [hn]; omega)]
      exact hu
    | succ i =>
      simp at hi
      have := ih i hi
      rw [List.getElem?_append_right (by rw [hn, Nat.add_mul]; omega), hn, ← this]
      congr 1
      rw [Nat.add_mul]
      omega
theorem rows_orders {w : World} {b : Nat} {ra : Option Addr} {n cap : Nat} {bef aft : Nat → Nat} {od : Nat → Ord} {L : List Nat} (h : w.ownsRow b 129 8 (.slice ra n cap) L.length (rowsO bef aft od L)) (hL : 0 < L.length) :
    ∃ g, ra = some ⟨g, 0, none⟩ ∧ g < w.heap.size ∧ ∀ i x, L[i]? = some x → ∀ t u, t < 8 → (ordL (bef x) (aft x) (od x))[t]? = some u → w.cell? ⟨g, i * 8 + t, none⟩ = some u := by
  rcases h.2 with ⟨h1, h2⟩ | ⟨g, cap', cur, h1, h2, h3, h4⟩
  · omega
  · cases h1
    refine ⟨g, rfl, (Array.getElem?_eq_some_iff.1 h3).1, fun i x hi t u ht hu => ?_⟩
    have := h.cells (g := g) rfl (i * 8 + t) u (flat_getG _ 8 (fun _ => rfl) L i t x u hi ht hu)
    rwa [Addr.add_lit, Nat.zero_add] at this
theorem ownsRow_low {w : World} {b b' : Nat} {e : TypeId} {size : Nat} {v : Value} {n : Nat} {xs : List Value} (h : w.ownsRow b e size v n xs) (hb : b' ≤ b) : w.ownsRow b' e size v n xs := by
  refine ⟨h.1, ?_⟩
  rcases h.2 with h | ⟨g, cap, cur, h1, h2, h3⟩
  · exact .inl h
  · exact .inr ⟨g, cap, cur, h1, Nat.le_trans hb h2, h3⟩
theorem cells_ones (o : Ord) : ∀ u ∈ o.cells, u.oneCell' = true := by
  intro u hu; simp [Ord.cells] at hu; rcases hu with rfl | rfl | rfl | rfl | rfl | rfl <;> rfl
theorem rdRow_api (w : World) (o : Ord) : RdRow (w.alloc (.cells o.cells.toArray 46)) 6 (.slice (some ⟨w.heap.size, 0, none⟩) 1 1) 1 o.cells := by
  refine Or.inr ⟨w.heap.size, 0, 1, rfl, rfl, ?_⟩
  intro j u hu
  rw [cell_of_row _ w.heap.size _ _ 46 (0, 0) (by rw [heap_alloc, if_pos rfl])]
  simpa using hu

theorem flat_same {β : Type} (l : List Nat) (f g : Nat → List β) (h : ∀ i ∈ l, f i = g i) : l.flatMap f = l.flatMap g := by
  induction l with
  | nil => rfl
  | cons x l ih => rw [List.flatMap_cons, List.flatMap_cons, h x (by simp), ih (fun i hi => h i (by simp [hi]))]

/-- What is listed is the book. -/
theorem listed {S L n : Nat} {od : Nat → Ord} {ps : Nat → UInt8 → Nat → List Nat} {fl : List Nat} {M : Nat → Option Nat} {st : St} (h : Fi S L n od ps fl M st) (s : Nat) (hs : s < S) : (upS L ps s 2).map od = st.book s := by
  have e : upS L ps s 2 = upR L ps s 66 L ++ upR L ps s 83 L := by simp [upS, List.range_succ, sdx]
  have hb : (upR L ps s 66 L).map od = st.bids s := by
    unfold upR St.bids
    rw [← h.hL, List.map_flatMap]
    refine flat_same _ _ _ (fun i hi => ?_)
    have := List.mem_range.1 hi
    rw [if_pos rfl]
    exact (h.q s 66 (L - i) ⟨hs, Or.inl rfl, by omega, by omega⟩).symm
  have ha : (upR L ps s 83 L).map od = st.asks s := by
    unfold upR St.asks
    rw [← h.hL, List.map_flatMap]
    refine flat_same _ _ _ (fun i hi => ?_)
    have := List.mem_range.1 hi
    rw [if_neg (by decide)]
    exact (h.q s 83 (i + 1) ⟨hs, Or.inr rfl, by omega, by omega⟩).symm
  rw [e, List.map_append, hb, ha]
  rfl
theorem upS_mem {L s x : Nat} {ps : Nat → UInt8 → Nat → List Nat} (h : x ∈ upS L ps s 2) : ∃ d p, (d = 66 ∨ d = 83) ∧ 1 ≤ p ∧ p ≤ L ∧ x ∈ ps s d p := by
  simp only [upS, upR, List.mem_flatMap, List.mem_range] at h
  obtain ⟨i, hi, r, hr, hx⟩ := h
  exact ⟨_, _, sdx_ok i, by split <;> omega, by split <;> omega, hx⟩

structure Ord.small (o : Ord) : Prop where
  ref : o.ref < 4294967296
  token : o.token < 4294967296
  stock : o.stock < 256
  price : o.price < 65536
  shares : o.shares < 65536

set_option maxRecDepth 100000 in
set_option maxHeartbeats 600000 in
theorem plain_any (a z : Nat) (o : Ord) (w : World) (h : o.small) :
    Calls Try.prog 59 #[ordV a z o] w fun e w' => e = .returned (.agg o.cells.toArray) ∧ Below w.heap.size w w' := by
  obtain ⟨h1, h2, h3, h4, h5⟩ := h
  unfold ordV ordL Ord.cells
  go_enter Try.func59, Try.ntmps59
  go_wp2_with fail
  exact bodyPost_ret (v := .agg #[.int .i64 o.ref, .int .i64 o.token, .int .u8 o.side.toNat, .int .i64 o.stock, .int .i64 o.price, .int .i64 o.shares]) (by simp [results, Try.results59, go_sem]) rfl ⟨rfl, Below.alloc ((Below.refl _ _).alloc (Nat.le_refl _) _) (by rw [size_alloc]; omega) _⟩

set_option maxRecDepth 100000 in
set_option maxHeartbeats 600000 in
theorem book_any (b : Nat) (c : BC) (k : SK) (st : St) (s : Nat) (w : World) (h : Rel w b c k st) (hs : s < st.stocks) :
    Calls Try.prog 33 #[.pointer (some ⟨b, 0, none⟩), .int .i64 s] w fun e w' => ∃ v,
      e = .returned (.tuple #[v, .int .i64 0]) ∧ w'.ownsRow w.heap.size 46 6 v (st.book s).length ((st.book s).flatMap Ord.cells) ∧ Below w.heap.size w w' := by
  obtain ⟨M, od, ps, fl, hbk, hM, hF⟩ := h.ex
  obtain ⟨free, fs, ls, bef, aft, hIs, hLk⟩ := hbk.ex
  have g19 : w.cell? ⟨b, 19, none⟩ = some (.pointer (some ⟨k.bk, 0, none⟩)) := by rw [h.B.cell, ← h.bk]; exact (c.get h.B.len).2.2.2.2.2.2.1
  have HST := Hid.mk (stocks_any k.bk (k.kc free st.resting) w hIs.K)
  have hS : k.S = st.stocks := hF.hS
  have HW := Hid.mk (within_yes s 0 ((k.S : Int) - 1) w (by omega) (by omega))
  have ks : (k.S : Int) ≤ 8 := by have := hbk.ok.S; omega
  have HLI := Hid.mk (list_mem k hbk.ok s free st.resting fs ls bef aft od ps fl w hIs hLk (by omega))
  have HLEN : Hid (∀ PL nl, upS k.L ps s 2 = PL → PL.length = nl → nl ≤ 8320) := by
    rintro PL nl rfl rfl
    have h1 := hLk.lenS (show s < k.S by omega) 2
    have h2 : k.L * k.n ≤ 64 * 65 := Nat.mul_le_mul hbk.ok.L hbk.ok.n.2
    omega
  have HSM : Hid (∀ x, x ∈ upS k.L ps s 2 → (od x).small) := by
    intro x hx
    obtain ⟨d, p, hd, hp1, hp2, hm⟩ := upS_mem hx
    have hv : VV k.S k.L s d p := ⟨by omega, hd, hp1, hp2⟩
    have hfit := hF.fits hv hm
    have k1 := hbk.ok.S
    have k2 := hbk.ok.L
    exact ⟨hfit.ref, hfit.token, by rw [hfit.stock]; omega, by rw [hfit.price]; omega, by have := hfit.most; omega⟩
  have HBK : Hid ((upS k.L ps s 2).map od = st.book s) := listed hF s (by omega)
  replace HST : Hid (Calls Try.prog 57 #[.pointer (some ⟨k.bk, 0, none⟩)] w fun e w' => e = .returned (.int .i64 k.S) ∧ w' = w) := HST
  clear hS hs h hbk hM hF hIs hLk
  go_enter Try.func33, Try.ntmps33
  go_wp2_with fail
  refine HST.out.mono ?_
  rintro e w' ⟨rfl, hw⟩
  replace hw := hw.symm
  subst hw
  clear HST
  go_wp2_with fail
  refine HW.out.mono ?_
  rintro e w' ⟨rfl, hw⟩
  replace hw := hw.symm
  subst hw
  clear HW
  go_wp2_with fail
  refine HLI.out.mono ?_
  rintro e w1 ⟨v, rfl, hv, hb1⟩
  obtain ⟨va, vc, hvv, hvc, hvm⟩ := ownsRow_len hv
  have HV := Hid.mk (And.intro hv hb1)
  have HVV := Hid.mk hvv
  clear hv hb1 HLI
  generalize hPL : upS k.L ps s 2 = PL at HV HVV
  have HPL := Hid.mk hPL
  obtain ⟨nl, hnl⟩ : ∃ nl, PL.length = nl := ⟨_, rfl⟩
  rw [hPL] at hvc
  rw [hnl] at hvc
  have HVV2 : Hid (v = .slice va nl vc) := by
    show _ = _
    rw [← hnl]; exact HVV.out
  have hvv2 := HVV2.out
  subst hvv2
  have HNL := Hid.mk hnl
  clear hPL hvv hnl HVV HVV2
  have HU : Hid (nl ≤ 8320) := HLEN.out _ _ HPL.out HNL.out
  have hnu := HU.out
  go_wp2_with fail
  obtain ⟨i0, hi, hz0, hz1, hz2⟩ := info_parts Try.infoApi
  go_loopw [6, 25] (fun v i wr => ∃ j : Nat, j ≤ nl ∧ i = .int .i64 j ∧ Hid (wr.ownsRow w1.heap.size 46 6 v j (((PL.take j).map od).flatMap Ord.cells)) ∧ Hid (Below w1.heap.size w1 wr)) (fun _ i _ => nl - (intOf i).toNat)
  case atStart => exact ⟨0, Nat.zero_le _, rfl, World.ownsRow_nil _ _ _ _, Below.refl _ _⟩
  case round =>
    obtain ⟨j, hj, rfl, hown, hB⟩ := hrel
    by_cases hjl : j < nl
    · have i2 : (j : Int) < (nl : Int) := by omega
      obtain ⟨g, rfl, hg, hcs⟩ := rows_orders HV.out.1 (by rw [HNL.out]; omega)
      obtain ⟨x, hx⟩ : ∃ x, PL[j]? = some x := ⟨_, List.getElem?_eq_getElem (by rw [HNL.out]; exact hjl)⟩
      have hcx := hcs j x hx
      have HTK : Hid (((PL.take (j + 1)).map od).flatMap Ord.cells = ((PL.take j).map od).flatMap Ord.cells ++ (od x).cells) := by
        show _ = _
        rw [List.take_add_one, hx]
        simp
      have HSX : Hid ((od x).small) := HSM.out x (by rw [HPL.out]; exact List.mem_of_getElem? hx)
      have hgr : g < wr.heap.size := Nat.lt_of_lt_of_le hg hB.out.size
      generalize od x = o at hcx HTK HSX
      generalize bef x = bx at hcx
      generalize aft x = ax at hcx
      have cx : ∀ t u, t < 8 → (ordL bx ax o)[t]? = some u → wr.cell? ⟨g, j * 8 + t, none⟩ = some u := fun t u ht hu => (hB.out.cell (p := ⟨g, j * 8 + t, none⟩) hg).trans (hcx t u ht hu)
      have d0 : wr.cell? ⟨g, j * 8, none⟩ = some (.int .i64 bx) := cx 0 _ (by omega) rfl
      have d1 : wr.cell? ⟨g, j * 8 + 1, none⟩ = some (.int .i64 ax) := cx 1 _ (by omega) rfl
      have d2 : wr.cell? ⟨g, j * 8 + 2, none⟩ = some (.int .u32 o.ref) := cx 2 _ (by omega) rfl
      have d3 : wr.cell? ⟨g, j * 8 + 3, none⟩ = some (.int .u32 o.token) := cx 3 _ (by omega) rfl
      have d4 : wr.cell? ⟨g, j * 8 + 4, none⟩ = some (.int .u8 o.side.toNat) := cx 4 _ (by omega) rfl
      have d5 : wr.cell? ⟨g, j * 8 + 5, none⟩ = some (.int .u8 o.stock) := cx 5 _ (by omega) rfl
      have d6 : wr.cell? ⟨g, j * 8 + 6, none⟩ = some (.int .u16 o.price) := cx 6 _ (by omega) rfl
      have d7 : wr.cell? ⟨g, j * 8 + 7, none⟩ = some (.int .u16 o.shares) := cx 7 _ (by omega) rfl
      clear cx hcx hcs
      have HPA : Hid (∀ W, Calls Try.prog 59 #[.agg #[.int .i64 bx, .int .i64 ax, .int .u32 o.ref, .int .u32 o.token, .int .u8 o.side.toNat, .int .u8 o.stock, .int .u16 o.price, .int .u16 o.shares]] W fun e w' => e = .returned (.agg #[.int .i64 o.ref, .int .i64 o.token, .int .u8 o.side.toNat, .int .i64 o.stock, .int .i64 o.price, .int .i64 o.shares]) ∧ Below W.heap.size W w') := fun W => plain_any bx ax o W HSX.out
      go_wp2_with fail
      refine (HPA.out _).mono ?_
      rintro e w2 ⟨rfl, hb2⟩
      have hB2 : Hid (Below w1.heap.size w1 w2) := (hB.out.alloc hB.out.size _).trans (hb2.mono (by rw [size_alloc]; have := hB.out.size; omega))
      have hown2 : w2.ownsRow w1.heap.size 46 6 u6 j (((PL.take j).map od).flatMap Ord.cells) := ownsRow_keep hown.out (fun g hg => by
        have := (hown.out.lt g hg).2
        rw [hb2.block g (by rw [size_alloc]; omega), heap_alloc, if_neg (by omega)])
      have HOA : Hid (∀ Ob : Obj, (w2.alloc Ob).ownsRow w1.heap.size 46 6 u6 j (((PL.take j).map od).flatMap Ord.cells)) := fun Ob => ownsRow_keep hown2 (fun g hg => by rw [heap_alloc, if_neg (by have := (hown2.lt g hg).2; omega)])
      have HOX := Hid.mk hown2
      clear hb2 hown2 hown hB d0 d1 d2 d3 d4 d5 d6 d7 HPA hgr hg hx
      go_wp2_with (at_builtin; go_must (refine wpList_append_row rfl _ _ 42 rfl w1.heap.size 46 i0 _ 6 48 und_api hi hz0 hz1 hz2 rfl (by decide) u6 j (((PL.take j).map od).flatMap Ord.cells) rfl (HOA.out _) (.slice (some ⟨w2.heap.size, 0, none⟩) 1 1) 1 o.cells rfl (rdRow_api w2 o) (cells_ones o) (by unfold maxLen; omega) (by omega) (by rw [size_alloc]; have := hB2.out.size; omega) ?_); intro rb capb w3 hown3 hg3 hv3; have hB3 : Hid (Below w1.heap.size w1 w3) := (hB2.out.alloc hB2.out.size _).grown hg3 (by rw [size_alloc]; have := hB2.out.size; omega) (fun g hg => (HOX.out.lt g hg).1); replace hown3 := Hid.mk hown3; clear hg3 hv3)
      exact ⟨⟨j + 1, by omega, by go_num, by show World.ownsRow _ _ _ _ _ _ _; rw [HTK.out]; exact hown3.out, hB3⟩, by simp [intOf]; omega⟩
    · have i2 : ¬ ((j : Int) < (nl : Int)) := by omega
      go_wp2_with fail
      go_ret2
      have : j = nl := by omega
      subst this
      have hlen : (st.book s).length = j := by rw [← HBK.out, HPL.out, List.length_map, HNL.out]
      refine ⟨_, rfl, ?_, HV.out.2.trans (hB.out.mono HV.out.2.size)⟩
      rw [hlen, ← HBK.out, HPL.out]
      have := ownsRow_low hown.out HV.out.2.size
      rwa [List.take_of_length_le (by rw [HNL.out]; exact Nat.le_refl _)] at this

end Go.Proofs.Ytphkchjejbffeaa

/- The walk of boursekeep's row: bytes, one behind the other. -/
namespace Go.Proofs.Ytphkchjejbffeaa
open Go.RowKit

/-- A list of bytes that lies in memory: its block, its offset, its capacity, its bytes. -/
structure Piece where
  b : Nat
  o : Nat
  cap : Nat
  l : List UInt8

def Piece.val (p : Piece) : Value := .slice (some ⟨p.b, p.o, none⟩) p.l.length p.cap
def cat (ps : List Piece) : List UInt8 := (ps.map (·.l)).flatten
theorem cat_snoc (ps : List Piece) (k : Nat) (p : Piece) (h : ps[k]? = some p) : cat (ps.take (k + 1)) = cat (ps.take k) ++ p.l := by
  have hk : k < ps.length := by
    rcases Nat.lt_or_ge k ps.length with h' | h'
    · exact h'
    · rw [List.getElem?_eq_none h'] at h; cases h
  rw [List.take_succ_eq_append_getElem hk]
  rw [List.getElem?_eq_getElem hk] at h
  cases h
  simp only [cat, List.map_append, List.flatten_append, List.map_cons, List.map_nil, List.flatten_cons, List.flatten_nil, List.append_nil]
theorem cat_le (ps : List Piece) (k : Nat) : (cat (ps.take k)).length ≤ (cat ps).length := by
  induction ps generalizing k with
  | nil => simp [cat]
  | cons p ps ih =>
    cases k with
    | zero => simp [cat]
    | succ k =>
      have := ih k
      simp only [cat, List.take_succ_cons, List.map_cons, List.flatten_cons, List.length_append] at *
      omega

set_option maxHeartbeats 400000 in
theorem row_any (bl : Nat) (ps : List Piece) (w : World)
    (hc : ∀ (i : Nat) (p : Piece), ps[i]? = some p → w.cell? ⟨bl, i, none⟩ = some p.val) (hbl : bl < w.heap.size)
    (hp : ∀ (i : Nat) (p : Piece), ps[i]? = some p → Lies w p.b p.o p.l ∧ p.b < w.heap.size)
    (hn : ps.length ≤ 1000) (ht : (cat ps).length ≤ 1000000) :
    Calls Try.prog 13 #[.slice (some ⟨bl, 0, none⟩) ps.length ps.length] w fun e w' => ∃ v, e = .returned v ∧ Own w' w.heap.size v (cat ps) ∧ Below w.heap.size w w' := by
  obtain ⟨i0, hi, hz0, hz1, hz2⟩ := info_parts Try.info5
  go_enter Try.func13, Try.ntmps13
  go_wp2
  go_loopw [3, 4] (fun v i wr => ∃ k : Nat, k ≤ ps.length ∧ i = .int .i64 k ∧ wr.ownsRow w.heap.size 5 1 v (cat (ps.take k)).length ((cat (ps.take k)).map B) ∧ Below w.heap.size w wr) (fun _ i _ => ps.length - (intOf i).toNat)
  case atStart => exact ⟨0, by omega, rfl, World.ownsRow_nil _ _ _ _, Below.refl _ _⟩
  case round =>
    obtain ⟨k, hk, rfl, hown, hbe⟩ := hrel
    by_cases hlt : k < ps.length
    · obtain ⟨p, hpk⟩ : ∃ p, ps[k]? = some p := ⟨_, List.getElem?_eq_getElem hlt⟩
      have hcell : wr.cell? ⟨bl, k, none⟩ = some (.slice (some ⟨p.b, p.o, none⟩) p.l.length p.cap) := (hbe.cell (p := ⟨bl, k, none⟩) hbl).trans (hc k p hpk)
      have HS : Hid (cat (ps.take (k + 1)) = cat (ps.take k) ++ p.l) := cat_snoc ps k p hpk
      have hle := cat_le ps (k + 1)
      rw [HS.out, List.length_append] at hle
      obtain ⟨hli, hpb⟩ := hp k p hpk
      have hnews : ∀ j u, (p.l.map B)[j]? = some u → wr.cell? ((⟨p.b, p.o, none⟩ : Addr).add j) = some u := by
        intro j u hu
        rw [List.getElem?_map, Option.map_eq_some_iff] at hu
        obtain ⟨c, hc', rfl⟩ := hu
        rw [Addr.add_lit, hbe.cell (p := ⟨p.b, p.o + j, none⟩) hpb]
        exact hli j c hc'
      clear hc hp
      have hsz := hbe.size
      go_wp2_with (first
        | (at_builtin; refine wpList_append_own _ rfl _ _ 28 rfl w.heap.size 5 i0 (.int .u8 0) 1 1 Try.underlying28 hi hz0 hz1 hz2 rfl (by decide) _ _ _ rfl hown ⟨p.b, p.o, none⟩ p.l.length p.cap (p.l.map B) rfl (by simp) hnews (fun x hx => by simp at hx; obtain ⟨c, _, rfl⟩ := hx; rfl) (by unfold maxLen; omega) (by omega) hsz ?_; intro v' w3 hown' hgrow3 hnil3))
      go_roundw
      case rel => exact ⟨k + 1, by omega, by go_num, by rw [HS.out, List.length_append, List.map_append]; exact hown', hbe.grown hgrow3 hsz (fun g hg => (hown.lt g hg).1)⟩
      case measure => simp [intOf]; omega
    · go_wp2
      go_ret
      exact ⟨_, rfl, by rw [List.take_of_length_le (by omega)] at hown; exact hown, hbe⟩

/-- The same, of blocks that are known whole. -/
theorem row_lit (bl : Nat) (ps : List Piece) (T : TypeId) (w : World) (n : Nat) (hn' : ps.length = n)
    (hbl : w.heap[bl]? = some (.cells (ps.map Piece.val).toArray T))
    (hp : ∀ p ∈ ps, p.o = 0 ∧ w.heap[p.b]? = some (.cells (p.l.map B).toArray 5))
    (hn : n ≤ 1000) (ht : (cat ps).length ≤ 1000000) :
    Calls Try.prog 13 #[.slice (some ⟨bl, 0, none⟩) n n] w fun e w' => ∃ v, e = .returned v ∧ Own w' w.heap.size v (cat ps) ∧ Below w.heap.size w w' := by
  subst hn'
  refine row_any bl ps w ?_ ?_ ?_ hn ht
  · intro i p h
    rw [cell_of_row w bl i _ T (0, 0) hbl]
    simp [h]
  · exact (Array.getElem?_eq_some_iff.1 hbl).1
  · intro i p h
    obtain ⟨h1, h2⟩ := hp p (List.mem_of_getElem? h)
    refine ⟨?_, (Array.getElem?_eq_some_iff.1 h2).1⟩
    intro j c hc
    rw [h1, Nat.zero_add, cell_of_row w p.b j _ 5 (0, 0) h2]
    simp [hc]

end Go.Proofs.Ytphkchjejbffeaa

/- The walk of boursekeep's Act.message: the bytes of an act. -/
namespace Go.Proofs.Ytphkchjejbffeaa
open Go.RowKit

structure Act where
  kind : Int
  token : Int
  other : Int
  side : Int
  stock : Int
  price : Int
  shares : Int

def I64 (x : Int) : Prop := -9223372036854775808 ≤ x ∧ x ≤ 9223372036854775807
structure Act.ok (a : Act) : Prop where
  kind : I64 a.kind
  token : I64 a.token
  other : I64 a.other
  side : I64 a.side
  stock : I64 a.stock
  price : I64 a.price
  shares : I64 a.shares
def Act.cells (a : Act) : Array Value := #[.int .i64 a.kind, .int .i64 a.token, .int .i64 a.other, .int .i64 a.side, .int .i64 a.stock, .int .i64 a.price, .int .i64 a.shares]

def sideOf (n : Nat) : UInt8 := if n = 0 then 66 else 83
def kindOf (n : Nat) : UInt8 := if n = 3 then 73 else 68

def Act.message (a : Act) : List UInt8 :=
  if pick a.kind 11 < 6 then
    [69] ++ enc (pick a.token 40) 4 ++ [sideOf (pick a.side 2), UInt8.ofNat (pick a.stock 4)] ++ enc (pick a.price 12) 2 ++ enc (pick a.shares 60) 2 ++ [kindOf (pick a.other 4)]
  else if pick a.kind 11 < 8 then [67] ++ enc (pick a.token 40) 4 ++ enc (pick a.shares 60) 2
  else [82] ++ enc (pick a.token 40) 4 ++ enc (pick a.other 40) 4 ++ enc (pick a.price 12) 2 ++ enc (pick a.shares 60) 2

theorem side_get (n : Nat) (h : n < (ByteArray.mk #[66, 83]).size) : (ByteArray.mk #[66, 83])[n] = sideOf n := by
  match n, h with
  | 0, _ => rfl
  | 1, _ => rfl
theorem kind_get (n : Nat) (h : n < (ByteArray.mk #[68, 68, 68, 73]).size) : (ByteArray.mk #[68, 68, 68, 73])[n] = kindOf n := by
  match n, h with
  | 0, _ => rfl
  | 1, _ => rfl
  | 2, _ => rfl
  | 3, _ => rfl

set_option maxHeartbeats 1000000 in
theorem message_any (a : Act) (w : World) (ha : a.ok) :
    Calls Try.prog 21 #[.agg a.cells] w fun e w' => ∃ v, e = .returned v ∧ Own w' w.heap.size v a.message ∧ Below w.heap.size w w' := by
  generalize hM : a.message = M
  obtain ⟨kind, token, other, side, stock, price, shares⟩ := a
  obtain ⟨⟨k1, k2⟩, ⟨t1, t2⟩, ⟨o1, o2⟩, ⟨s1, s2⟩, ⟨c1, c2⟩, ⟨p1, p2⟩, ⟨q1, q2⟩⟩ := ha
  simp only [Act.cells, Act.message] at *
  have b1 := pick_lt token 40 (by omega)
  have b2 := pick_lt price 12 (by omega)
  have b3 := pick_lt shares 60 (by omega)
  have b4 := pick_lt kind 11 (by omega)
  by_cases hk : pick kind 11 < 6
  · have b5 := pick_lt side 2 (by omega)
    have b6 := pick_lt other 4 (by omega)
    have b7 := pick_lt stock 4 (by omega)
    rw [if_pos hk] at hM
    have HM := Hid.mk hM
    clear hM
    go_enter Try.func21, Try.ntmps21
    go_wp2_with (first
      | (go_at_call 11; refine (pick_any _ _ _ (by assumption) (by assumption) (by decide) (by decide)).mono ?_; rintro e w' ⟨rfl, rfl⟩)
      | (go_at_call 14; refine (num_any _ _ _ (by omega) (by omega) (by decide) (by decide)).mono ?_; rintro e w' ⟨rfl, rfl⟩))
    refine (row_lit _ [⟨w.heap.size + 4, 0, 1, [69]⟩, ⟨w.heap.size + 1, 0, 4, enc (pick token 40) 4⟩, ⟨w.heap.size + 5, 0, 2, [sideOf (pick side 2), UInt8.ofNat (pick stock 4)]⟩, ⟨w.heap.size + 2, 0, 2, enc (pick price 12) 2⟩, ⟨w.heap.size + 3, 0, 2, enc (pick shares 60) 2⟩, ⟨w.heap.size + 6, 0, 1, [kindOf (pick other 4)]⟩] 28 _ 6 rfl ?_ ?_ (by decide) ?_).mono ?_
    · rw [heap_alloc, if_pos (by simp only [size_alloc])]
      simp [Piece.val, enc_length]
    · simp [heap_alloc, B, side_get, kind_get]
      omega
    · simp [cat, enc_length]
    · rintro e w' ⟨v, rfl, ho, hb⟩
      go_wp2
      go_ret
      refine ⟨v, rfl, (ho.base (by simp only [size_alloc]; omega)).cast ?_, ?_⟩
      · rw [← HM.out]; simp [cat]
      · refine Below.trans ?_ (hb.mono (by simp only [size_alloc]; omega))
        repeat refine Below.alloc ?_ (by first | exact Nat.le_refl _ | (simp only [size_alloc]; omega)) _
        exact Below.refl _ _
  · rw [if_neg hk] at hM
    by_cases hk2 : pick kind 11 < 8
    · rw [if_pos hk2] at hM
      have HM := Hid.mk hM
      clear hM
      go_enter Try.func21, Try.ntmps21
      go_wp2_with (first
        | (go_at_call 11; refine (pick_any _ _ _ (by assumption) (by assumption) (by decide) (by decide)).mono ?_; rintro e w' ⟨rfl, rfl⟩)
        | (go_at_call 14; refine (num_any _ _ _ (by omega) (by omega) (by decide) (by decide)).mono ?_; rintro e w' ⟨rfl, rfl⟩))
      refine (row_lit _ [⟨w.heap.size + 4, 0, 1, [67]⟩, ⟨w.heap.size + 1, 0, 4, enc (pick token 40) 4⟩, ⟨w.heap.size + 3, 0, 2, enc (pick shares 60) 2⟩] 28 _ 3 rfl ?_ ?_ (by decide) ?_).mono ?_
      · rw [heap_alloc, if_pos (by simp only [size_alloc])]
        simp [Piece.val, enc_length]
      · simp [heap_alloc, B]
      · simp [cat, enc_length]
      · rintro e w' ⟨v, rfl, ho, hb⟩
        go_wp2
        go_ret
        refine ⟨v, rfl, (ho.base (by simp only [size_alloc]; omega)).cast ?_, ?_⟩
        · rw [← HM.out]; simp [cat]
        · refine Below.trans ?_ (hb.mono (by simp only [size_alloc]; omega))
          repeat refine Below.alloc ?_ (by first | exact Nat.le_refl _ | (simp only [size_alloc]; omega)) _
          exact Below.refl _ _
    · rw [if_neg hk2] at hM
      have HM := Hid.mk hM
      have b5 := pick_lt other 40 (by omega)
      clear hM
      go_enter Try.func21, Try.ntmps21
      go_wp2_with (first
        | (go_at_call 11; refine (pick_any _ _ _ (by assumption) (by assumption) (by decide) (by decide)).mono ?_; rintro e w' ⟨rfl, rfl⟩)
        | (go_at_call 14; refine (num_any _ _ _ (by omega) (by omega) (by decide) (by decide)).mono ?_; rintro e w' ⟨rfl, rfl⟩))
      refine (row_lit _ [⟨w.heap.size + 4, 0, 1, [82]⟩, ⟨w.heap.size + 1, 0, 4, enc (pick token 40) 4⟩, ⟨w.heap.size + 5, 0, 4, enc (pick other 40) 4⟩, ⟨w.heap.size + 2, 0, 2, enc (pick price 12) 2⟩, ⟨w.heap.size + 3, 0, 2, enc (pick shares 60) 2⟩] 28 _ 5 rfl ?_ ?_ (by decide) ?_).mono ?_
      · rw [heap_alloc, if_pos (by simp only [size_alloc])]
        simp [Piece.val, enc_length]
      · simp [heap_alloc, B]
      · simp [cat, enc_length]
      · rintro e w' ⟨v, rfl, ho, hb⟩
        go_wp2
        go_ret
        refine ⟨v, rfl, (ho.base (by simp only [size_alloc]; omega)).cast ?_, ?_⟩
        · rw [← HM.out]; simp [cat]
        · refine Below.trans ?_ (hb.mono (by simp only [size_alloc]; omega))
          repeat refine Below.alloc ?_ (by first | exact Nat.le_refl _ | (simp only [size_alloc]; omega)) _
          exact Below.refl _ _

end Go.Proofs.Ytphkchjejbffeaa

/- The bourse that boursekeep opens, as the document has it. -/
namespace Go.Proofs.Ytphkchjejbffeaa

def sellMsg : List UInt8 := [69] ++ enc 1000 4 ++ [83, 0] ++ enc 5 2 ++ enc 100 2 ++ [68]
def buyMsg : List UInt8 := [69] ++ enc 1001 4 ++ [66, 0] ++ enc 6 2 ++ enc 100 2 ++ [73]
def st1 (p : Nat) : St := (opened 3 10 p).feed sellMsg
def st2 (p : Nat) : St := (st1 p).feed buyMsg
/-- Behind all that. -/
def openSt (p : Nat) : St := (st2 p).told.taped

def openOk (p : Nat) : Bool := (st1 p).resting == 1 && (st2 p).resting == 0 && (st2 p).opn && (st2 p).ans.length == 89 && (st2 p).tape.length == 34 && (st1 p).ans.length ≤ 89 && (st1 p).tape.length ≤ 34
theorem open_all : (List.range 64).all (fun p => openOk (1 + p)) = true := by decide +kernel
theorem open_ok (p : Nat) (h1 : 1 ≤ p) (h2 : p ≤ 64) : (st1 p).resting = 1 ∧ (st2 p).resting = 0 ∧ (st2 p).opn = true ∧ (st2 p).ans.length = 89 ∧ (st2 p).tape.length = 34 ∧ (st1 p).ans.length ≤ 89 ∧ (st1 p).tape.length ≤ 34 := by
  have h := List.all_eq_true.1 open_all (p - 1) (by simp; omega)
  rw [show 1 + (p - 1) = p by omega] at h
  simpa [openOk, and_assoc] using h

end Go.Proofs.Ytphkchjejbffeaa

/- The walk of boursekeep's open. -/
namespace Go.Proofs.Ytphkchjejbffeaa
open Go.RowKit

theorem Api.below {At : World → Nat → (Nat → Prop) → St → Prop} (api : Api At) {w w' : World} {b : Nat} {G : Nat → Prop} {st : St} (h : At w b G st) (hb : Below w.heap.size w w') : At w' b G st :=
  api.keep h (fun k hk => hb.block k (api.lt h k hk))
theorem Own.below {w w' : World} {b : Nat} {v : Value} {l : List UInt8} (h : Own w b v l) (hb : Below w.heap.size w w') : Own w' b v l :=
  h.keep (fun g hg => hb.block g (h.lt g hg).2)
theorem Own.fr {w w' : World} {b : Nat} {v : Value} {l : List UInt8} {F : Nat → Prop} (h : Own w b v l) (hb : Fr F w w') (hF : ∀ g, v.ownBlock = some g → ¬ F g) : Own w' b v l :=
  h.keep (fun g hg => hb.block g (h.lt g hg).2 (hF g hg))

theorem told_tape (st : St) : st.told.tape = st.tape := rfl
/-- A house: its block hb, the bourse's block b with the blocks G, all that went out. -/
structure House (At : World → Nat → (Nat → Prop) → St → Prop) (w : World) (hb b : Nat) (G : Nat → Prop) (vo vt : Value) (st : St) (out tape : List UInt8) : Prop where
  cell : w.heap[hb]? = some (.cells #[.pointer (some ⟨b, 0, none⟩), vo, vt] 30)
  at_ : At w b G st
  out : Own w 0 vo out
  tape : Own w 0 vt tape
  hG : ¬ G hb
  ho : ∀ g, vo.ownBlock = some g → ¬ G g ∧ g ≠ hb
  ht : ∀ g, vt.ownBlock = some g → ¬ G g ∧ g ≠ hb
  hot : ∀ g, vo.ownBlock = some g → vt.ownBlock ≠ some g

/-- The blocks of a house. -/
def HF (hb : Nat) (G : Nat → Prop) (vo vt : Value) (k : Nat) : Prop := k = hb ∨ G k ∨ vo.ownBlock = some k ∨ vt.ownBlock = some k

theorem House.step {At : World → Nat → (Nat → Prop) → St → Prop} {w w' : World} {hb b : Nat} {G G' : Nat → Prop} {vo vt : Value} {st st' : St} {out tape : List UInt8}
    (h : House At w hb b G vo vt st out tape) (hat : At w' b G' st') (hfr : Fr G w w') (hG : ∀ k, G' k → G k ∨ w.heap.size ≤ k) : House At w' hb b G' vo vt st' out tape := by
  have hlt : hb < w.heap.size := (Array.getElem?_eq_some_iff.1 h.cell).1
  refine ⟨(hfr.block hb hlt h.hG).trans h.cell, hat, h.out.fr hfr (fun g hg => (h.ho g hg).1), h.tape.fr hfr (fun g hg => (h.ht g hg).1), ?_, ?_, ?_, h.hot⟩
  · intro hk
    rcases hG _ hk with hk | hk
    · exact h.hG hk
    · omega
  · intro g hg
    refine ⟨fun hk => ?_, (h.ho g hg).2⟩
    rcases hG _ hk with hk | hk
    · exact (h.ho g hg).1 hk
    · have := (h.out.lt g hg).2; omega
  · intro g hg
    refine ⟨fun hk => ?_, (h.ht g hg).2⟩
    rcases hG _ hk with hk | hk
    · exact (h.ht g hg).1 hk
    · have := (h.tape.lt g hg).2; omega

theorem House.lt {At : World → Nat → (Nat → Prop) → St → Prop} (api : Api At) {w : World} {hb b : Nat} {G : Nat → Prop} {vo vt : Value} {st : St} {out tape : List UInt8}
    (h : House At w hb b G vo vt st out tape) (k : Nat) (hk : HF hb G vo vt k) : k < w.heap.size := by
  rcases hk with rfl | hk | hk | hk
  · exact (Array.getElem?_eq_some_iff.1 h.cell).1
  · exact api.lt h.at_ k hk
  · exact (h.out.lt k hk).2
  · exact (h.tape.lt k hk).2

theorem Fr.then {F : Nat → Prop} {a b c : World} (h : Fr F a b) (k : Fr F b c) : Fr F a c := h.trans k (fun _ _ h => h)

set_option maxHeartbeats 600000 in
theorem open_any {At : World → Nat → (Nat → Prop) → St → Prop} (api : Api At) (pool : Int) (w : World) (h1 : -9223372036854775808 ≤ pool) (h2 : pool ≤ 9223372036854775807) :
    Calls Try.prog 10 #[.int .i64 pool] w fun e w' => ∃ hb b G vo vt,
      e = .returned (.tuple #[.pointer (some ⟨hb, 0, none⟩), .bool true]) ∧ House At w' hb b G vo vt (openSt (1 + pick pool 64)) [] [] ∧ (∀ k, HF hb G vo vt k → w.heap.size ≤ k) ∧ Below w.heap.size w w' := by
  have hp := pick_lt pool 64 (by omega)
  obtain ⟨f1, f2, f3, f4, f5, f6, f7⟩ := open_ok (1 + pick pool 64) (by omega) (by omega)
  have F1 := Hid.mk f1
  have F2 := Hid.mk f2
  have F3 := Hid.mk f3
  have F4 := Hid.mk f4
  have F5 := Hid.mk f5
  clear f1 f2 f3 f4 f5
  go_enter Try.func10, Try.ntmps10
  go_wp2_with (go_at_call 11; refine (pick_any _ _ _ h1 h2 (by decide) (by decide)).mono ?_; rintro e w' ⟨rfl, hw⟩; replace hw := hw.symm; subst hw)
  refine (api.new 3 10 _ _ (by decide) (by decide) (by decide) (by decide) (by omega) (by omega)).mono ?_
  rintro e w1 ⟨b, G, rfl, hat, hG, hb1⟩
  rw [show (1 + ((pick pool 64 : Nat) : Int)).toNat = 1 + pick pool 64 from by omega, show (3 : Int).toNat = 3 from rfl, show (10 : Int).toNat = 10 from rfl] at hat
  generalize hpe : pick pool 64 = p at *
  have HP := Hid.mk hpe
  clear hpe
  go_wp2_with (go_at_call 14; refine (num_any _ _ _ (by decide) (by decide) (by decide) (by decide)).mono ?_; rintro e w' ⟨rfl, rfl⟩)
  refine (row_lit _ [⟨w1.heap.size, 0, 1, [69]⟩, ⟨w1.heap.size + 1, 0, 4, enc 1000 4⟩, ⟨w1.heap.size + 2, 0, 2, [83, 0]⟩, ⟨w1.heap.size + 3, 0, 2, enc 5 2⟩, ⟨w1.heap.size + 4, 0, 2, enc 100 2⟩, ⟨w1.heap.size + 5, 0, 1, [68]⟩] 28 _ 6 rfl ?_ ?_ (by decide) ?_).mono ?_
  · rw [heap_alloc, if_pos (by simp only [size_alloc])]
    simp [Piece.val, enc_length]
  · simp [heap_alloc, B, Nat.add_assoc]
  · simp [cat, enc_length]
  rintro e w2 ⟨vs, rfl, hos, hb2⟩
  replace hos := hos.cast (show _ = sellMsg from rfl)
  have hB2 : Below w1.heap.size w1 w2 := by
    refine Below.trans ?_ (hb2.mono (by simp only [size_alloc]; omega))
    repeat refine Below.alloc ?_ (by first | exact Nat.le_refl _ | (simp only [size_alloc]; omega)) _
    exact Below.refl _ _
  replace hos := hos.base (b' := w1.heap.size) (by simp only [size_alloc]; omega)
  clear hb2
  go_wp2_with (go_at_call 14; refine (num_any _ _ _ (by decide) (by decide) (by decide) (by decide)).mono ?_; rintro e w' ⟨rfl, rfl⟩)
  refine (row_lit _ [⟨w2.heap.size, 0, 1, [69]⟩, ⟨w2.heap.size + 1, 0, 4, enc 1001 4⟩, ⟨w2.heap.size + 2, 0, 2, [66, 0]⟩, ⟨w2.heap.size + 3, 0, 2, enc 6 2⟩, ⟨w2.heap.size + 4, 0, 2, enc 100 2⟩, ⟨w2.heap.size + 5, 0, 1, [73]⟩] 28 _ 6 rfl ?_ ?_ (by decide) ?_).mono ?_
  · rw [heap_alloc, if_pos (by simp only [size_alloc])]
    simp [Piece.val, enc_length]
  · simp [heap_alloc, B, Nat.add_assoc]
  · simp [cat, enc_length]
  rintro e w3 ⟨vb, rfl, hob, hb3⟩
  replace hob := hob.cast (show _ = buyMsg from rfl)
  have hB3 : Below w2.heap.size w2 w3 := by
    refine Below.trans ?_ (hb3.mono (by simp only [size_alloc]; omega))
    repeat refine Below.alloc ?_ (by first | exact Nat.le_refl _ | (simp only [size_alloc]; omega)) _
    exact Below.refl _ _
  replace hob := hob.base (b' := w2.heap.size) (by simp only [size_alloc]; omega)
  clear hb3
  have hat3 := api.below (api.below hat hB2) hB3
  have hG3 : ∀ k, G k → k < w1.heap.size := api.lt hat
  go_wp2_with fail
  refine (api.feed b G _ vs sellMsg w3 hat3 ((hos.below hB3).rd (fun g hg h => by have := hG3 g h; have := (hos.lt g hg).1; omega)) (Nat.le_trans f6 (by decide)) (Nat.le_trans f7 (by decide))).mono ?_
  rintro e w4 ⟨G4, rfl, (hat4 : At w4 b G4 (st1 (1 + p))), hG4, hfr4⟩
  have hob4 : Own w4 w2.heap.size vb buyMsg := hob.fr hfr4 (fun g hg h => by have := hG3 g h; have := (hob.lt g hg).1; have := hB2.size; omega)
  have hlt4 := api.lt hat4
  go_wp2_with fail
  refine (api.look b G4 (st1 (1 + p)) w4 hat4).mono ?_
  rintro e w5 ⟨rfl, hb5⟩
  rw [viewOf, F1.out]
  go_wp2_with fail
  generalize hXo : Obj.cells _ 37 = Xo
  have hBX : Below w4.heap.size w4 (w5.alloc Xo) := hb5.alloc hb5.size Xo
  have s5 := hb5.size
  have s4 := hfr4.size
  have s3 := hB3.size
  have s2 := hB2.size
  have s1 := hb1.size
  have hvb4 : ∀ g, vb.ownBlock = some g → ¬ G4 g := fun g hg h => by
    have := hob.lt g hg
    rcases hG4 g h with h | h
    · have := hG3 g h; omega
    · omega
  refine (api.feed b G4 (st1 (1 + p)) vb buyMsg _ (api.below hat4 hBX) ((hob4.below hBX).rd hvb4) (by rw [show (st1 (1 + p)).feed buyMsg = st2 (1 + p) from rfl, F4.out]; decide) (by rw [show (st1 (1 + p)).feed buyMsg = st2 (1 + p) from rfl, F5.out]; decide)).mono ?_
  rintro e w6 ⟨G6, rfl, (hat6 : At w6 b G6 (st2 (1 + p))), hG6, hfr6⟩
  have s6 := hfr6.size
  rw [size_alloc] at s6 hG6
  have k6 : w6.heap[w5.heap.size]? = some Xo := by
    rw [hfr6.block _ (by rw [size_alloc]; omega) (fun h => by have := hlt4 _ h; omega), heap_alloc, if_pos rfl]
  go_wp2_with fail
  refine (api.look b G6 (st2 (1 + p)) w6 hat6).mono ?_
  rintro e w7 ⟨rfl, hb7⟩
  rw [viewOf, F2.out, F3.out]
  go_wp2_with fail
  generalize hYo : Obj.cells _ 37 = Yo
  have hBY : Below w6.heap.size w6 (w7.alloc Yo) := hb7.alloc hb7.size Yo
  have s7 := hb7.size
  have hlt6 := api.lt hat6
  refine (api.answers b G6 (st2 (1 + p)) _ (api.below hat6 hBY)).mono ?_
  rintro e w8 ⟨va, G8, rfl, hoa, hat8, hG8, hva, hfr8⟩
  have s8 := hfr8.size
  rw [size_alloc] at s8 hG8
  have n6 : ¬ G6 w5.heap.size := fun h => by
    rcases hG6 _ h with h | h
    · have := hlt4 _ h; omega
    · omega
  have n6' : ¬ G6 w7.heap.size := fun h => by have := hlt6 _ h; omega
  have k8 : w8.heap[w5.heap.size]? = some Xo := by
    rw [hfr8.block _ (by rw [size_alloc]; omega) n6, hBY.block _ (by omega), k6]
  have j8 : w8.heap[w7.heap.size]? = some Yo := by
    rw [hfr8.block _ (by rw [size_alloc]; omega) n6', heap_alloc, if_pos rfl]
  go_wp2_with fail
  refine (api.tape b G8 _ w8 hat8).mono ?_
  rintro e w9 ⟨vt, G9, rfl, hot, hat9, hG9, hvt, hfr9⟩
  have s9 := hfr9.size
  have n8 : ¬ G8 w5.heap.size := fun h => by
    rcases hG8 _ h with h | h
    · exact n6 h
    · omega
  have n8' : ¬ G8 w7.heap.size := fun h => by
    rcases hG8 _ h with h | h
    · exact n6' h
    · omega
  have k9 : w9.heap[w5.heap.size]? = some Xo := by rw [hfr9.block _ (by omega) n8, k8]
  have j9 : w9.heap[w7.heap.size]? = some Yo := by rw [hfr9.block _ (by omega) n8', j8]
  have c1 : w9.cell? ⟨w5.heap.size, 1, none⟩ = some (.int .i64 1) := by
    subst hXo; rw [cell_of_row w9 _ 1 _ 37 (0, 0) k9]; rfl
  have c2 : w9.cell? ⟨w7.heap.size, 1, none⟩ = some (.int .i64 0) := by
    subst hYo; rw [cell_of_row w9 _ 1 _ 37 (0, 0) j9]; rfl
  have c3 : w9.cell? ⟨w7.heap.size, 2, none⟩ = some (.bool true) := by
    subst hYo; rw [cell_of_row w9 _ 2 _ 37 (0, 0) j9]; rfl
  have l1 : w5.heap.size < w9.heap.size := by omega
  have l2 : w7.heap.size < w9.heap.size := by omega
  have hBl : Below w.heap.size w w9 := by
    have a1 : Below w.heap.size w w3 := hb1.trans ((hB2.trans (hB3.mono s2)).mono s1)
    have a2 : Below w.heap.size w3 w4 := hfr4.below (by omega) hG
    have a3 : Below w.heap.size (w5.alloc Xo) w6 := hfr6.below (by rw [size_alloc]; omega) (fun k h => by rcases hG4 k h with h | h; exact hG k h; omega)
    have g6 : ∀ k, G6 k → w.heap.size ≤ k := fun k h => by
      rcases hG6 k h with h | h
      · rcases hG4 k h with h | h
        · exact hG k h
        · omega
      · omega
    have a4 : Below w.heap.size (w7.alloc Yo) w8 := hfr8.below (by rw [size_alloc]; omega) g6
    have a5 : Below w.heap.size w8 w9 := hfr9.below (by omega) (fun k h => by rcases hG8 k h with h | h; exact g6 k h; omega)
    exact ((((((a1.trans a2).trans (hBX.mono (by omega))).trans a3).trans (hBY.mono (by omega))).trans a4).trans a5)
  have g9 : ∀ k, G9 k → w.heap.size ≤ k := fun k h => by
    rcases hG9 k h with h | h
    · rcases hG8 k h with h | h
      · rcases hG6 k h with h | h
        · rcases hG4 k h with h | h
          · exact hG k h
          · omega
        · omega
      · omega
    · omega
  have hat10 : At w9 b G9 (openSt (1 + p)) := by rw [openSt]; exact hat9
  obtain ⟨ra, ca, rfl, _, _⟩ := hoa.len
  obtain ⟨rt, ct, rfl, _, _⟩ := hot.len
  have q1 : (st2 (1 + p)).ans.length = 89 := F4.out
  have q2 : (St.told (st2 (1 + p))).tape.length = 34 := by rw [told_tape]; exact F5.out
  simp only [q1, q2]
  have FIN := Hid.mk (And.intro hBl (And.intro hat10 (And.intro g9 (api.lt hat9))))
  clear q1 q2 hoa hot hva hvt k6 k8 j8 k9 j9 hXo hYo hBl hat10 g9 n8 n8' n6 n6' hat9 hG9 hfr9 hat8 hG8 hfr8 hlt6 hBY hb7 hat6 hG6 hfr6 hvb4 hBX hb5 hlt4 hob4 hat4 hG4 hfr4 hG3 hat3 hob hB3 hos hB2 hat hG hb1 s1 s2 s3 s4 s5 s6 s7 s8 s9 f6 f7 F1 F2 F3 F4 F5
  go_wp2_with fail
  go_ret2
  obtain ⟨hBl, hat10, g9, hlt9⟩ := FIN.out
  have hBa : Below w9.heap.size w9 (w9.alloc (.cells #[.pointer (some ⟨b, 0, none⟩), .slice none 0 0, .slice none 0 0] 30)) := (Below.refl _ _).alloc (Nat.le_refl _) _
  refine ⟨w9.heap.size, b, G9, .slice none 0 0, .slice none 0 0, rfl, ?_, ?_, ?_⟩
  · rw [HP.out]
    refine ⟨by rw [heap_alloc, if_pos rfl], api.below hat10 hBa, World.ownsRow_nil _ _ _ _, World.ownsRow_nil _ _ _ _, fun h => (by have := hlt9 _ h; omega), fun g hg => (by cases hg), fun g hg => (by cases hg), fun g hg => (by cases hg)⟩
  · intro k hk
    rcases hk with rfl | hk | hk | hk
    · exact hBl.size
    · exact g9 k hk
    · cases hk
    · cases hk
  · exact hBl.trans (hBa.mono hBl.size)
end Go.Proofs.Ytphkchjejbffeaa

/- The walk of boursekeep's House.act. -/
namespace Go.Proofs.Ytphkchjejbffeaa
open Go.RowKit
attribute [local go_sem ↓] Go.wp_at_zero Go.wp_at_succ

/-- What an act does to the bourse. -/
def St.done (st : St) (a : Act) : St := if pick a.kind 11 = 10 then st.tick (pick a.price 100) else st.feed a.message

set_option maxHeartbeats 600000 in
theorem act_tick {At : World → Nat → (Nat → Prop) → St → Prop} (api : Api At) (hb b : Nat) (G : Nat → Prop) (vo vt : Value) (st : St) (out tape : List UInt8) (a : Act) (w : World)
    (hh : House At w hb b G vo vt st out tape) (ha : a.ok) (hk : pick a.kind 11 = 10) :
    Calls Try.prog 22 #[.pointer (some ⟨hb, 0, none⟩), .agg a.cells] w fun e w' =>
      e = .returned (.bool true) ∧ House At w' hb b G vo vt (st.tick (pick a.price 100)) out tape ∧ Fr (HF hb G vo vt) w w' := by
  obtain ⟨kind, token, other, side, stock, price, shares⟩ := a
  obtain ⟨⟨k1, k2⟩, ⟨t1, t2⟩, ⟨o1, o2⟩, ⟨s1, s2⟩, ⟨c1, c2⟩, ⟨p1, p2⟩, ⟨q1, q2⟩⟩ := ha
  simp only [Act.cells] at *
  have b1 := pick_lt price 100 (by omega)
  have hc := cell_of_row w hb 0 _ 30 (0, 0) hh.cell
  simp only [List.getElem?_toArray, List.getElem?_cons_zero] at hc
  have hlt : hb < w.heap.size := (Array.getElem?_eq_some_iff.1 hh.cell).1
  have HH := Hid.mk hh
  clear hh
  go_enter Try.func22, Try.ntmps22
  go_wp2_with (go_at_call 11; refine (pick_any _ _ _ (by assumption) (by assumption) (by decide) (by decide)).mono ?_; rintro e w' ⟨rfl, rfl⟩)
  generalize hBo : Obj.cells _ 49 = Bo
  have hc' : (w.alloc Bo).cell? ⟨hb, 0, none⟩ = some (.pointer (some ⟨b, 0, none⟩)) := by rw [(Below.alloc (Below.refl _ w) (Nat.le_refl _) Bo).cell (p := ⟨hb, 0, none⟩) hlt, hc]
  have hd' : (w.alloc Bo).cell? ⟨w.heap.size, 5, none⟩ = some (.int .i64 price) := by subst hBo; rw [cell_of_row (w.alloc _) w.heap.size 5 _ 49 (0, 0) (by rw [heap_alloc, if_pos rfl])]; rfl
  have hat' : At (w.alloc Bo).drew b G st := api.keep HH.out.at_ (fun k hk => by rw [show (w.alloc Bo).drew.heap = (w.alloc Bo).heap from rfl, heap_alloc, if_neg (by have := api.lt HH.out.at_ k hk; omega)])
  have nG : ¬ G w.heap.size := fun h => by have := api.lt HH.out.at_ _ h; omega
  have nH : ¬ G hb := HH.out.hG
  clear hc hBo
  go_region_held3 (fun w' => w'.cell? ⟨hb, 0, none⟩ = some (.pointer (some ⟨b, 0, none⟩)) ∧ w'.cell? ⟨w.heap.size, 5, none⟩ = some (.int .i64 price))
    (first | go_keep | exact ⟨m1, m2⟩)
    (first
      | (go_at_call 11; refine (pick_any price 100 _ p1 p2 (by decide) (by decide)).mono ?_; rintro e w' ⟨rfl, rfl⟩)
      | (go_at_call 34; refine (api.tick b G st (pick price 100 : Nat) _ hat' (by omega) (by omega)).mono ?_; rintro e w5 ⟨rfl, hat5, hfr⟩; have m1 := hfr.cell (o := 0) hc' nH; have m2 := hfr.cell (o := 5) hd' nG))
  all_goals go_wp2_with fail
  go_ret
  have hF : Fr G w w5 := ((Fr.alloc G w Bo).then (Fr.drew G _)).then hfr
  exact ⟨rfl, HH.out.step hat5 hF (fun k hk => .inl hk), hF.mono (fun k _ hk => .inr (.inl hk))⟩

end Go.Proofs.Ytphkchjejbffeaa
