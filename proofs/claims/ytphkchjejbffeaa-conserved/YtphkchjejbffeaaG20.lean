/- The walk of Feed. -/
import Derived.Test.YtphkchjejbffeaaG19
import Derived.WalkMore
namespace Go.Proofs.Ytphkchjejbffeaa
open Go.RowKit
attribute [local go_sem ↓] Go.wp_at_zero Go.wp_at_succ

/-- What holds whenever the next message is looked for. -/
def FedJ (w : World) (b : Nat) (c : BC) (k : SK) (fin : St) (v : Value) (wr : World) : Prop :=
  ∃ cc stc l, Rel wr b cc k stc ∧ Inb cc stc ∧ Rd wr (GB b cc k) v l ∧ stc.feed l = fin ∧ Fr (GB b c k) w wr ∧ (∀ j, GB b cc k j → GB b c k j ∨ w.heap.size ≤ j)

def FedK (w : World) (b : Nat) (c : BC) (k : SK) (fin : St) (a' : Go.Act) (w' : World) : Prop := ∃ (v' u2 u3 u4 u5 u6 u7 u8 u9 u10 u11 u12 u13 u14 u15 u16 u17 u18 u19 u20 u21 u22 u23 u24 u25 u26 u27 : Value), a' = { tmps := #[.pointer (some ⟨b, 0, none⟩), v', u2, u3, u4, u5, u6, u7, u8, u9, u10, u11, u12, u13, u14, u15, u16, u17, u18, u19, u20, u21, u22, u23, u24, u25, u26, u27], defers := [] } ∧ Hid (FedJ w b c k fin v' w')

theorem Fed.after {w wr w' : World} {b : Nat} {c cc : BC} {k : SK} {st : St} (hf : Fr (GB b c k) w wr) (hs : ∀ j, GB b cc k j → GB b c k j ∨ w.heap.size ≤ j) (h : Fed wr b cc k w' st) : Fed w b c k w' st := by
  obtain ⟨c', h1, h2, h3, h4⟩ := h
  refine ⟨c', h1, h2, hf.trans h3 (fun i hi hg => (hs i hg).elim id (fun e => by omega)), fun j hj => ?_⟩
  rcases h4 j hj with e | e
  · exact hs j e
  · exact Or.inr (Nat.le_trans hf.size e)

theorem Rd.lenV {w : World} {F : Nat → Prop} {v : Value} {l : List UInt8} (h : Rd w F v l) : lenV v = l.length := by
  rcases h with ⟨rfl, rfl⟩ | ⟨g, o, cap, rfl, -⟩
  · rfl
  · rfl

set_option maxRecDepth 100000 in
set_option maxHeartbeats 1000000 in
theorem feed_any (b : Nat) (c : BC) (k : SK) (st : St) (v : Value) (l : List UInt8) (w : World) (h : Rel w b c k st) (hi : Inb c st) (hrd : Rd w (GB b c k) v l) (ha : (st.feed l).ans.length ≤ big) (ht : (st.feed l).tape.length ≤ big) :
    Calls Try.prog 12 #[.pointer (some ⟨b, 0, none⟩), v] w fun e w' => e = .returned (.tuple #[]) ∧ Fed w b c k w' (st.feed l) := by
  have HJ : Hid (FedJ w b c k (st.feed l) v w) := ⟨c, st, l, h, hi, hrd, rfl, Fr.refl _ _, fun _ e => Or.inl e⟩
  have HL := Hid.mk (And.intro ha ht)
  generalize st.feed l = fin at HJ HL ⊢
  clear h hi hrd ha ht
  go_enter Try.func12, Try.ntmps12
  go_wp2_with fail
  refine wp_scope_label 0 (FedK w b c k fin) (fun a' _ => lenV (a'.tmps.getD 1 undef)) ⟨v, _, _, _, _, _, _, _, _, _, _, _, _, _, _, _, _, _, _, _, _, _, _, _, _, _, _, rfl, HJ⟩ ?_
  clear HJ v l
  rintro a' wr ⟨v, u2, u3, u4, u5, u6, u7, u8, u9, u10, u11, u12, u13, u14, u15, u16, u17, u18, u19, u20, u21, u22, u23, u24, u25, u26, u27, rfl, HJ⟩
  obtain ⟨cc, stc, l, h, hi, hrd, hfin, hfr, hsub⟩ := HJ.out
  have g0 : wr.cell? ⟨b, 0, none⟩ = some (.bool cc.opn) := by rw [h.B.cell]; exact (cc.get h.B.len).1
  have HR := Hid.mk h
  have HI := Hid.mk hi
  have HD := Hid.mk hrd
  have HE := Hid.mk hfin
  have HF := Hid.mk (And.intro hfr hsub)
  clear h hi hrd hfin hfr hsub HJ
  generalize hop : cc.opn = op at g0
  have HO := Hid.mk hop
  clear hop
  cases op with
  | false =>
    have HX : Hid (Fed w b c k wr fin) := by
      have e : stc.feed l = stc := feed_shut l stc (by rw [← HI.out.opn]; exact HO.out)
      have := HE.out
      rw [e] at this
      subst this
      exact ⟨cc, HR.out, HI.out, HF.out.1, HF.out.2⟩
    go_wp2_with fail
    simp only [Exit.jump]
    refine bodyPost_ret (results_none rfl _ _ _) rfl ?_
    exact ⟨rfl, HX.out⟩
  | true =>
    go_wp2_with fail
    refine (gather_any (GB b cc k) b (Or.inl rfl) cc v l wr HR.out.B HD.out HI.out.less).mono ?_
    rintro e w1 ⟨v1, whole, n, bytes', rfl, hG⟩
    have HG := Hid.mk hG
    clear hG
    cases whole with
    | false =>
      have HX : Hid (Fed w b c k w1 fin) := by
        have := fed_less HR.out HI.out HO.out HG.out
        rw [HE.out] at this
        exact this.after HF.out.1 HF.out.2
      go_wp2_with fail
      simp only [Exit.jump]
      refine bodyPost_ret (results_none rfl _ _ _) rfl ?_
      exact ⟨rfl, HX.out⟩
    | true =>
      obtain ⟨lz, hlz⟩ : ∃ lz, cc.have_ + n = lz := ⟨_, rfl⟩
      have HM : Hid (Calls Try.prog 30 #[.pointer (some ⟨b, 2, none⟩)] w1 fun e w' => e = .returned (.slice (some ⟨b, 2, none⟩) lz 13) ∧ IsB w' b { cc with bytes := bytes', have_ := 0 } ∧ Fr (fun k => k = b) w1 w') := by
        show Calls _ _ _ _ _
        rw [← hlz]
        exact inbox_message b _ w1 HG.out.isB (by have := (HG.out.yes rfl).2.1; have := size_pos (byteAt bytes' 0); show cc.have_ + n ≤ 13; omega)
      have HLZ := Hid.mk hlz
      clear hlz
      go_wp2_with fail
      refine HM.out.mono ?_
      rintro e w2 ⟨rfl, hB2, hf2⟩
      obtain ⟨m, m1, m2, m3, m4, m5, m6, m7, m8, m9⟩ := fed_whole HR.out HI.out HO.out HG.out hB2 hf2
      have hml : m.length = lz := m1.trans HLZ.out
      have hmon := mon_feed l stc
      rw [HE.out] at hmon
      have HDO := Hid.mk (do_any b _ k _ m w2 m6 m3 m2 (Nat.le_trans hmon.ans.length_le HL.out.1) (Nat.le_trans hmon.tape.length_le HL.out.2))
      rw [hml] at HDO
      have HMs := Hid.mk (And.intro m4 (And.intro m5 (And.intro m7 (And.intro m8 m9))))
      clear hB2 hf2 m1 m2 m3 m4 m5 m6 m7 m8 m9 hml hmon HM
      go_wp2_with fail
      refine HDO.out.mono ?_
      rintro e w3 ⟨rfl, hd⟩
      have HN : Hid (FedJ w b c k fin v1 w3 ∧ lenV v1 < lenV v) := by
        obtain ⟨c3, r1, r2, r3⟩ := hd
        obtain ⟨m4, m5, m7, m8, m9⟩ := HMs.out
        have hsub : ∀ j, GB b c3 k j → GB b cc k j ∨ w2.heap.size ≤ j := fun j hj => (r2.sub j hj).imp (m8 j) id
        have hfr := r2.fr.mono (fun j _ e => m8 j e)
        refine ⟨⟨c3, _, l.drop n, r1, ⟨?_, ?_, ?_, Or.inl r2.have_⟩, m9.move hfr hsub, ?_, ?_, ?_⟩, ?_⟩
        · rw [r3, act_opn]
          show (if _ then cc.opn else false) = if _ then stc.opn else false
          rw [HI.out.opn]
        · rw [act_part, r2.have_]
          rfl
        · rw [act_part, r2.have_]
          rfl
        · rw [← m4, ← feed_append, List.take_append_drop]
          exact HE.out
        · exact HF.out.1.trans (m7.trans hfr (fun _ _ e => e)) (fun i hi hg => (HF.out.2 i hg).elim id (fun e => by omega))
        · intro j hj
          rcases hsub j hj with e | e
          · exact HF.out.2 j e
          · exact Or.inr (Nat.le_trans HF.out.1.size (Nat.le_trans m7.size e))
        · rw [HD.out.lenV, m9.lenV, List.length_drop]
          have := HG.out.le
          omega
      clear hd HDO HMs
      go_wp2_with fail
      go_step3
      exact ⟨rfl, ⟨v1, _, _, _, _, _, _, _, _, _, _, _, _, _, _, _, _, _, _, _, _, _, _, _, _, _, _, rfl, HN.out.1⟩, HN.out.2⟩

end Go.Proofs.Ytphkchjejbffeaa

/- Look. -/
namespace Go.Proofs.Ytphkchjejbffeaa
open Go.RowKit
attribute [local go_sem ↓] Go.wp_at_zero Go.wp_at_succ

set_option maxRecDepth 100000 in
set_option maxHeartbeats 600000 in
theorem look_any (b : Nat) (c : BC) (k : SK) (st : St) (w : World) (h : Rel w b c k st) (hi : Inb c st) :
    Calls Try.prog 17 #[.pointer (some ⟨b, 0, none⟩)] w fun e w' => e = .returned (viewOf st) ∧ Below w.heap.size w w' := by
  obtain ⟨M, od, ps, fl, hbk, hM, hF⟩ := h.ex
  obtain ⟨free, fs, ls, bef, aft, hIs, hLk⟩ := hbk.ex
  have HRS := Hid.mk (fun w' (hw : w'.heap[k.bk]? = w.heap[k.bk]?) => resting_any k.bk (k.kc free st.resting) w' ⟨hw.trans hIs.K.blk⟩)
  have g0 : w.cell? ⟨b, 0, none⟩ = some (.bool c.opn) := by rw [h.B.cell]; exact (c.get h.B.len).1
  have g1 : w.cell? ⟨b, 1, none⟩ = some (.int .u64 c.time) := by rw [h.B.cell]; exact (c.get h.B.len).2.1
  have g15 : w.cell? ⟨b, 15, none⟩ = some (.int .i64 c.have_) := by rw [h.B.cell]; exact (c.get h.B.len).2.2.1
  have g19 : w.cell? ⟨b, 19, none⟩ = some (.pointer (some ⟨k.bk, 0, none⟩)) := by rw [h.B.cell, ← h.bk]; exact (c.get h.B.len).2.2.2.2.2.2.1
  have HV : Hid (viewOf st = .agg #[.int .i64 c.time, .int .i64 st.resting, .bool c.opn, .int .i64 c.have_]) := by
    show _ = _
    unfold viewOf
    rw [← h.time, ← hi.opn, hi.len]
  have t1 := h.tm
  have w1 : IntKind.i64.wrap (c.time : Int) = (c.time : Int) := by
    have := h.time
    have := h.inv.time
    rw [IntKind.wrap_i64]
    omega
  have HKL := Hid.mk hIs.K.lt
  generalize st.resting = r at *
  clear h hi hbk hM hF hIs hLk t1
  go_enter Try.func17, Try.ntmps17
  go_wp2_with fail
  have hbl : b < w.heap.size := World.block_lt_of_cell? w _ g0
  have hkl := HKL.out
  generalize hW : w.alloc (Obj.cells #[Value.int IntKind.i64 0, Value.int IntKind.i64 0, Value.bool false, Value.int IntKind.i64 0] 37) = W
  have hF : Fr (fun _ => False) w W := by rw [← hW]; exact Fr.alloc _ _ _
  have HBW : Hid (Below w.heap.size w W) := by
    show Below _ _ _
    rw [← hW]; exact (Below.refl _ _).alloc (Nat.le_refl _) _
  have hbx : W.heap[w.heap.size]? = some (Obj.cells #[Value.int IntKind.i64 0, Value.int IntKind.i64 0, Value.bool false, Value.int IntKind.i64 0] 37) := by rw [← hW, heap_alloc, if_pos rfl]
  clear hW
  have q0 := hF.cell g0 (fun e => e)
  have q1 := hF.cell g1 (fun e => e)
  have q15 := hF.cell g15 (fun e => e)
  have q19 := hF.cell g19 (fun e => e)
  have HC : Hid (∀ W', W'.heap = W.heap → Calls Try.prog 32 #[.pointer (some ⟨k.bk, 0, none⟩)] W' fun e w' => e = .returned (.int .i64 r) ∧ w' = W') := fun W' e => HRS.out W' (by rw [e]; exact hF.block k.bk hkl (fun e => e))
  obtain ⟨g, hg⟩ : ∃ g, w.heap.size = g := ⟨_, rfl⟩
  have x0 : W.drew.cell? ⟨g, 0, none⟩ = some (.int .i64 0) := by rw [← hg]; exact cell_of_row _ _ 0 _ _ (0, 0) hbx
  have x1 : W.drew.cell? ⟨g, 1, none⟩ = some (.int .i64 0) := by rw [← hg]; exact cell_of_row _ _ 1 _ _ (0, 0) hbx
  have x2 : W.drew.cell? ⟨g, 2, none⟩ = some (.bool false) := by rw [← hg]; exact cell_of_row _ _ 2 _ _ (0, 0) hbx
  have x3 : W.drew.cell? ⟨g, 3, none⟩ = some (.int .i64 0) := by rw [← hg]; exact cell_of_row _ _ 3 _ _ (0, 0) hbx
  have fo : ∀ j, W.drew.frozen? ⟨g, j, none⟩ = false := fun j => by rw [← hg]; show W.frozen? _ = false; simp [World.frozen?, hbx]
  have f0 := fo 0
  have f1 := fo 1
  have f2 := fo 2
  have f3 := fo 3
  rw [hg] at hbx HBW ⊢
  have HBX := Hid.mk hbx
  have HG := Hid.mk hg
  have hbg : b < g := by rw [← hg]; exact hbl
  have hbn : ¬ b = g := by omega
  have hbn2 : ¬ g = b := by omega
  have HS := Hid.mk (And.intro q0 (And.intro q1 (And.intro q15 q19)))
  clear fo hbx hF g0 g1 g15 g19 HRS hbl hkl hg HKL
  go_region_held3 (fun w' => w'.cell? ⟨b, 0, none⟩ = some (.bool c.opn) ∧ w'.cell? ⟨b, 1, none⟩ = some (.int .u64 c.time) ∧ w'.cell? ⟨b, 15, none⟩ = some (.int .i64 c.have_) ∧ w'.cell? ⟨b, 19, none⟩ = some (.pointer (some ⟨k.bk, 0, none⟩))) (first | with_reducible exact m1 | go_keep)
    ((go_at_call 32; refine (HC.out W.drew rfl).mono ?_; rintro e w2 ⟨rfl, hw⟩; have m1 : w2.cell? ⟨b, 0, none⟩ = some (.bool c.opn) ∧ w2.cell? ⟨b, 1, none⟩ = some (.int .u64 c.time) ∧ w2.cell? ⟨b, 15, none⟩ = some (.int .i64 c.have_) ∧ w2.cell? ⟨b, 19, none⟩ = some (.pointer (some ⟨k.bk, 0, none⟩)) := (by rw [hw]; exact HS.out); have y0 : w2.cell? ⟨g, 0, none⟩ = some (.int .i64 0) := (by rw [hw]; exact x0); have y1 : w2.cell? ⟨g, 1, none⟩ = some (.int .i64 0) := (by rw [hw]; exact x1); have y2 : w2.cell? ⟨g, 2, none⟩ = some (.bool false) := (by rw [hw]; exact x2); have y3 : w2.cell? ⟨g, 3, none⟩ = some (.int .i64 0) := (by rw [hw]; exact x3); have e0 : w2.frozen? ⟨g, 0, none⟩ = false := (by rw [hw]; exact f0); have e1 : w2.frozen? ⟨g, 1, none⟩ = false := (by rw [hw]; exact f1); have e2 : w2.frozen? ⟨g, 2, none⟩ = false := (by rw [hw]; exact f2); have e3 : w2.frozen? ⟨g, 3, none⟩ = false := (by rw [hw]; exact f3); have HW := Hid.mk hw; clear hw))
  have hbx2 : w2.heap[g]? = _ := (show w2.heap[g]? = W.heap[g]? by rw [HW.out]; rfl).trans HBX.out
  have hfin : ((((w2.setCell ⟨g, 0, none⟩ (.int .i64 c.time)).setCell ⟨g, 1, none⟩ (.int .i64 r)).setCell ⟨g, 2, none⟩ (.bool c.opn)).setCell ⟨g, 3, none⟩ (.int .i64 c.have_)).heap[g]? = some (.cells #[.int .i64 c.time, .int .i64 r, .bool c.opn, .int .i64 c.have_] 37) := by
    rw [heap_setCell_same _ g 3 _ _ _ (heap_setCell_same _ g 2 _ _ _ (heap_setCell_same _ g 1 _ _ _ (heap_setCell_same _ g 0 _ _ _ hbx2)))]
    rfl
  have hfr : Fr (fun j => j = g) w2 ((((w2.setCell ⟨g, 0, none⟩ (.int .i64 c.time)).setCell ⟨g, 1, none⟩ (.int .i64 r)).setCell ⟨g, 2, none⟩ (.bool c.opn)).setCell ⟨g, 3, none⟩ (.int .i64 c.have_)) := (Fr.setCell w2 ⟨g, 0, none⟩ _).trans ((Fr.setCell _ ⟨g, 1, none⟩ _).trans ((Fr.setCell _ ⟨g, 2, none⟩ _).trans (Fr.setCell _ ⟨g, 3, none⟩ _) (fun _ _ e => e)) (fun _ _ e => e)) (fun _ _ e => e)
  have HBL : Hid (Below w.heap.size w ((((w2.setCell ⟨g, 0, none⟩ (.int .i64 c.time)).setCell ⟨g, 1, none⟩ (.int .i64 r)).setCell ⟨g, 2, none⟩ (.bool c.opn)).setCell ⟨g, 3, none⟩ (.int .i64 c.have_))) := by
    have h1 : Fr (fun j => j = g) w W := Fr.of_below (by rw [HG.out]; exact HBW.out) _
    have h2 : Fr (fun j => j = g) W w2 := by rw [HW.out]; exact Fr.drew _ _
    exact ((h1.trans h2 (fun _ _ e => e)).trans hfr (fun _ _ e => e)).below (Nat.le_refl _) (fun j e => by rw [HG.out]; exact Nat.le_of_eq e.symm)
  generalize ((((w2.setCell ⟨g, 0, none⟩ (.int .i64 c.time)).setCell ⟨g, 1, none⟩ (.int .i64 r)).setCell ⟨g, 2, none⟩ (.bool c.opn)).setCell ⟨g, 3, none⟩ (.int .i64 c.have_)) = w9 at hfin HBL ⊢
  have u0 : w9.cell? ⟨g, 0, none⟩ = some (.int .i64 c.time) := cell_of_row _ _ 0 _ _ (0, 0) hfin
  have u1 : w9.cell? ⟨g, 1, none⟩ = some (.int .i64 r) := cell_of_row _ _ 1 _ _ (0, 0) hfin
  have u2 : w9.cell? ⟨g, 2, none⟩ = some (.bool c.opn) := cell_of_row _ _ 2 _ _ (0, 0) hfin
  have u3 : w9.cell? ⟨g, 3, none⟩ = some (.int .i64 c.have_) := cell_of_row _ _ 3 _ _ (0, 0) hfin
  clear hfin hfr hbx2 m1 y0 y1 y2 y3 e0 e1 e2 e3 x0 x1 x2 x3 f0 f1 f2 f3 q0 q1 q15 q19
  go_wp2_with fail
  exact bodyPost_ret (v := .agg #[.int .i64 c.time, .int .i64 r, .bool c.opn, .int .i64 c.have_]) (by simp [results, Try.results17, go_sem, u0, u1, u2, u3]) rfl ⟨by rw [HV.out], HBL.out⟩

end Go.Proofs.Ytphkchjejbffeaa

/- Book. -/
namespace Go.Proofs.Ytphkchjejbffeaa
open Go.RowKit
attribute [local go_sem ↓] Go.wp_at_zero Go.wp_at_succ

theorem Try.infoApi : (Try.prog.info? 46).map (fun i => (i.zero, i.size, i.bytes)) = some (some (.agg #[.int .i64 0, .int .i64 0, .int .u8 0, .int .i64 0, .int .i64 0, .int .i64 0]), 6, 48) := by kernel_rfl
theorem und_api : Try.prog.underlying 42 = some (.slice 46) := by kernel_rfl

theorem flat_getG {α : Type} (f : α → List Value) (n : Nat) (hn : ∀ x, (f x).length = n) (l : List α) (i j : Nat) (x : α) (u : Value) (hi : l[i]? = some x) (hj : j < n) (hu : (f x)[j]? = some u) : (l.flatMap f)[i * n + j]? = some u := by
  induction l generalizing i with
  | nil => simp at hi
  | cons y l ih =>
    rw [List.flatMap_cons]
    cases i with
    | zero =>
      simp at hi
      subst hi
      rw [Nat.zero_mul, Nat.zero_add, List.getElem?_append_left (by rw [hn]; omega)]
      exact hu
    | succ i =>
      simp at hi
      have := ih i hi
      rw [List.getElem?_append_right (by rw [hn, Nat.add_mul]; omega), hn, ← this]
      congr 1
      rw [Nat.add_mul]
      omega
theorem rows_orders {w : World} {b : Nat} {ra : Option Addr} {n cap : Nat} {bef aft : Nat → Nat} {od : Nat → Ord} {L : List Nat} (h : w.ownsRow b 129 8 (.slice ra n cap) L.length (rowsO bef aft od L)) (hL : 0 < L.length) :
    ∃ g, ra = some ⟨g, 0, none⟩ ∧ g < w.heap.size ∧ ∀ i x, L[i]? = some x → ∀ t u, t < 8 → (ordL (bef x) (aft x) (od x))[t]? = some u → w.cell? ⟨g, i * 8 + t, none⟩ = some u := by
  rcases h.2 with ⟨h1, h2⟩ | ⟨g, cap', cur, h1, h2, h3, h4⟩
  · omega
  · cases h1
    refine ⟨g, rfl, (Array.getElem?_eq_some_iff.1 h3).1, fun i x hi t u ht hu => ?_⟩
    have := h.cells (g := g) rfl (i * 8 + t) u (flat_getG _ 8 (fun _ => rfl) L i t x u hi ht hu)
    rwa [Addr.add_lit, Nat.zero_add] at this
theorem ownsRow_low {w : World} {b b' : Nat} {e : TypeId} {size : Nat} {v : Value} {n : Nat} {xs : List Value} (h : w.ownsRow b e size v n xs) (hb : b' ≤ b) : w.ownsRow b' e size v n xs := by
  refine ⟨h.1, ?_⟩
  rcases h.2 with h | ⟨g, cap, cur, h1, h2, h3⟩
  · exact .inl h
  · exact .inr ⟨g, cap, cur, h1, Nat.le_trans hb h2, h3⟩
theorem cells_ones (o : Ord) : ∀ u ∈ o.cells, u.oneCell' = true := by
  intro u hu; simp [Ord.cells] at hu; rcases hu with rfl | rfl | rfl | rfl | rfl | rfl <;> rfl
theorem rdRow_api (w : World) (o : Ord) : RdRow (w.alloc (.cells o.cells.toArray 46)) 6 (.slice (some ⟨w.heap.size, 0, none⟩) 1 1) 1 o.cells := by
  refine Or.inr ⟨w.heap.size, 0, 1, rfl, rfl, ?_⟩
  intro j u hu
  rw [cell_of_row _ w.heap.size _ _ 46 (0, 0) (by rw [heap_alloc, if_pos rfl])]
  simpa using hu

theorem flat_same {β : Type} (l : List Nat) (f g : Nat → List β) (h : ∀ i ∈ l, f i = g i) : l.flatMap f = l.flatMap g := by
  induction l with
  | nil => rfl
  | cons x l ih => rw [List.flatMap_cons, List.flatMap_cons, h x (by simp), ih (fun i hi => h i (by simp [hi]))]

/-- What is listed is the book. -/
theorem listed {S L n : Nat} {od : Nat → Ord} {ps : Nat → UInt8 → Nat → List Nat} {fl : List Nat} {M : Nat → Option Nat} {st : St} (h : Fi S L n od ps fl M st) (s : Nat) (hs : s < S) : (upS L ps s 2).map od = st.book s := by
  have e : upS L ps s 2 = upR L ps s 66 L ++ upR L ps s 83 L := by simp [upS, List.range_succ, sdx]
  have hb : (upR L ps s 66 L).map od = st.bids s := by
    unfold upR St.bids
    rw [← h.hL, List.map_flatMap]
    refine flat_same _ _ _ (fun i hi => ?_)
    have := List.mem_range.1 hi
    rw [if_pos rfl]
    exact (h.q s 66 (L - i) ⟨hs, Or.inl rfl, by omega, by omega⟩).symm
  have ha : (upR L ps s 83 L).map od = st.asks s := by
    unfold upR St.asks
    rw [← h.hL, List.map_flatMap]
    refine flat_same _ _ _ (fun i hi => ?_)
    have := List.mem_range.1 hi
    rw [if_neg (by decide)]
    exact (h.q s 83 (i + 1) ⟨hs, Or.inr rfl, by omega, by omega⟩).symm
  rw [e, List.map_append, hb, ha]
  rfl
theorem upS_mem {L s x : Nat} {ps : Nat → UInt8 → Nat → List Nat} (h : x ∈ upS L ps s 2) : ∃ d p, (d = 66 ∨ d = 83) ∧ 1 ≤ p ∧ p ≤ L ∧ x ∈ ps s d p := by
  simp only [upS, upR, List.mem_flatMap, List.mem_range] at h
  obtain ⟨i, hi, r, hr, hx⟩ := h
  exact ⟨_, _, sdx_ok i, by split <;> omega, by split <;> omega, hx⟩

structure Ord.small (o : Ord) : Prop where
  ref : o.ref < 4294967296
  token : o.token < 4294967296
  stock : o.stock < 256
  price : o.price < 65536
  shares : o.shares < 65536

set_option maxRecDepth 100000 in
set_option maxHeartbeats 600000 in
theorem plain_any (a z : Nat) (o : Ord) (w : World) (h : o.small) :
    Calls Try.prog 59 #[ordV a z o] w fun e w' => e = .returned (.agg o.cells.toArray) ∧ Below w.heap.size w w' := by
  obtain ⟨h1, h2, h3, h4, h5⟩ := h
  unfold ordV ordL Ord.cells
  go_enter Try.func59, Try.ntmps59
  go_wp2_with fail
  exact bodyPost_ret (v := .agg #[.int .i64 o.ref, .int .i64 o.token, .int .u8 o.side.toNat, .int .i64 o.stock, .int .i64 o.price, .int .i64 o.shares]) (by simp [results, Try.results59, go_sem]) rfl ⟨rfl, Below.alloc ((Below.refl _ _).alloc (Nat.le_refl _) _) (by rw [size_alloc]; omega) _⟩

set_option maxRecDepth 100000 in
set_option maxHeartbeats 600000 in
theorem book_any (b : Nat) (c : BC) (k : SK) (st : St) (s : Nat) (w : World) (h : Rel w b c k st) (hs : s < st.stocks) :
    Calls Try.prog 33 #[.pointer (some ⟨b, 0, none⟩), .int .i64 s] w fun e w' => ∃ v,
      e = .returned (.tuple #[v, .int .i64 0]) ∧ w'.ownsRow w.heap.size 46 6 v (st.book s).length ((st.book s).flatMap Ord.cells) ∧ Below w.heap.size w w' := by
  obtain ⟨M, od, ps, fl, hbk, hM, hF⟩ := h.ex
  obtain ⟨free, fs, ls, bef, aft, hIs, hLk⟩ := hbk.ex
  have g19 : w.cell? ⟨b, 19, none⟩ = some (.pointer (some ⟨k.bk, 0, none⟩)) := by rw [h.B.cell, ← h.bk]; exact (c.get h.B.len).2.2.2.2.2.2.1
  have HST := Hid.mk (stocks_any k.bk (k.kc free st.resting) w hIs.K)
  have hS : k.S = st.stocks := hF.hS
  have HW := Hid.mk (within_yes s 0 ((k.S : Int) - 1) w (by omega) (by omega))
  have ks : (k.S : Int) ≤ 8 := by have := hbk.ok.S; omega
  have HLI := Hid.mk (list_mem k hbk.ok s free st.resting fs ls bef aft od ps fl w hIs hLk (by omega))
  have HLEN : Hid (∀ PL nl, upS k.L ps s 2 = PL → PL.length = nl → nl ≤ 8320) := by
    rintro PL nl rfl rfl
    have h1 := hLk.lenS (show s < k.S by omega) 2
    have h2 : k.L * k.n ≤ 64 * 65 := Nat.mul_le_mul hbk.ok.L hbk.ok.n.2
    omega
  have HSM : Hid (∀ x, x ∈ upS k.L ps s 2 → (od x).small) := by
    intro x hx
    obtain ⟨d, p, hd, hp1, hp2, hm⟩ := upS_mem hx
    have hv : VV k.S k.L s d p := ⟨by omega, hd, hp1, hp2⟩
    have hfit := hF.fits hv hm
    have k1 := hbk.ok.S
    have k2 := hbk.ok.L
    exact ⟨hfit.ref, hfit.token, by rw [hfit.stock]; omega, by rw [hfit.price]; omega, by have := hfit.most; omega⟩
  have HBK : Hid ((upS k.L ps s 2).map od = st.book s) := listed hF s (by omega)
  replace HST : Hid (Calls Try.prog 57 #[.pointer (some ⟨k.bk, 0, none⟩)] w fun e w' => e = .returned (.int .i64 k.S) ∧ w' = w) := HST
  clear hS hs h hbk hM hF hIs hLk
  go_enter Try.func33, Try.ntmps33
  go_wp2_with fail
  refine HST.out.mono ?_
  rintro e w' ⟨rfl, hw⟩
  replace hw := hw.symm
  subst hw
  clear HST
  go_wp2_with fail
  refine HW.out.mono ?_
  rintro e w' ⟨rfl, hw⟩
  replace hw := hw.symm
  subst hw
  clear HW
  go_wp2_with fail
  refine HLI.out.mono ?_
  rintro e w1 ⟨v, rfl, hv, hb1⟩
  obtain ⟨va, vc, hvv, hvc, hvm⟩ := ownsRow_len hv
  have HV := Hid.mk (And.intro hv hb1)
  have HVV := Hid.mk hvv
  clear hv hb1 HLI
  generalize hPL : upS k.L ps s 2 = PL at HV HVV
  have HPL := Hid.mk hPL
  obtain ⟨nl, hnl⟩ : ∃ nl, PL.length = nl := ⟨_, rfl⟩
  rw [hPL] at hvc
  rw [hnl] at hvc
  have HVV2 : Hid (v = .slice va nl vc) := by
    show _ = _
    rw [← hnl]; exact HVV.out
  have hvv2 := HVV2.out
  subst hvv2
  have HNL := Hid.mk hnl
  clear hPL hvv hnl HVV HVV2
  have HU : Hid (nl ≤ 8320) := HLEN.out _ _ HPL.out HNL.out
  have hnu := HU.out
  go_wp2_with fail
  obtain ⟨i0, hi, hz0, hz1, hz2⟩ := info_parts Try.infoApi
  go_loopw [6, 25] (fun v i wr => ∃ j : Nat, j ≤ nl ∧ i = .int .i64 j ∧ Hid (wr.ownsRow w1.heap.size 46 6 v j (((PL.take j).map od).flatMap Ord.cells)) ∧ Hid (Below w1.heap.size w1 wr)) (fun _ i _ => nl - (intOf i).toNat)
  case atStart => exact ⟨0, Nat.zero_le _, rfl, World.ownsRow_nil _ _ _ _, Below.refl _ _⟩
  case round =>
    obtain ⟨j, hj, rfl, hown, hB⟩ := hrel
    by_cases hjl : j < nl
    · have i2 : (j : Int) < (nl : Int) := by omega
      obtain ⟨g, rfl, hg, hcs⟩ := rows_orders HV.out.1 (by rw [HNL.out]; omega)
      obtain ⟨x, hx⟩ : ∃ x, PL[j]? = some x := ⟨_, List.getElem?_eq_getElem (by rw [HNL.out]; exact hjl)⟩
      have hcx := hcs j x hx
      have HTK : Hid (((PL.take (j + 1)).map od).flatMap Ord.cells = ((PL.take j).map od).flatMap Ord.cells ++ (od x).cells) := by
        show _ = _
        rw [List.take_add_one, hx]
        simp
      have HSX : Hid ((od x).small) := HSM.out x (by rw [HPL.out]; exact List.mem_of_getElem? hx)
      have hgr : g < wr.heap.size := Nat.lt_of_lt_of_le hg hB.out.size
      generalize od x = o at hcx HTK HSX
      generalize bef x = bx at hcx
      generalize aft x = ax at hcx
      have cx : ∀ t u, t < 8 → (ordL bx ax o)[t]? = some u → wr.cell? ⟨g, j * 8 + t, none⟩ = some u := fun t u ht hu => (hB.out.cell (p := ⟨g, j * 8 + t, none⟩) hg).trans (hcx t u ht hu)
      have d0 : wr.cell? ⟨g, j * 8, none⟩ = some (.int .i64 bx) := cx 0 _ (by omega) rfl
      have d1 : wr.cell? ⟨g, j * 8 + 1, none⟩ = some (.int .i64 ax) := cx 1 _ (by omega) rfl
      have d2 : wr.cell? ⟨g, j * 8 + 2, none⟩ = some (.int .u32 o.ref) := cx 2 _ (by omega) rfl
      have d3 : wr.cell? ⟨g, j * 8 + 3, none⟩ = some (.int .u32 o.token) := cx 3 _ (by omega) rfl
      have d4 : wr.cell? ⟨g, j * 8 + 4, none⟩ = some (.int .u8 o.side.toNat) := cx 4 _ (by omega) rfl
      have d5 : wr.cell? ⟨g, j * 8 + 5, none⟩ = some (.int .u8 o.stock) := cx 5 _ (by omega) rfl
      have d6 : wr.cell? ⟨g, j * 8 + 6, none⟩ = some (.int .u16 o.price) := cx 6 _ (by omega) rfl
      have d7 : wr.cell? ⟨g, j * 8 + 7, none⟩ = some (.int .u16 o.shares) := cx 7 _ (by omega) rfl
      clear cx hcx hcs
      have HPA : Hid (∀ W, Calls Try.prog 59 #[.agg #[.int .i64 bx, .int .i64 ax, .int .u32 o.ref, .int .u32 o.token, .int .u8 o.side.toNat, .int .u8 o.stock, .int .u16 o.price, .int .u16 o.shares]] W fun e w' => e = .returned (.agg #[.int .i64 o.ref, .int .i64 o.token, .int .u8 o.side.toNat, .int .i64 o.stock, .int .i64 o.price, .int .i64 o.shares]) ∧ Below W.heap.size W w') := fun W => plain_any bx ax o W HSX.out
      go_wp2_with fail
      refine (HPA.out _).mono ?_
      rintro e w2 ⟨rfl, hb2⟩
      have hB2 : Hid (Below w1.heap.size w1 w2) := (hB.out.alloc hB.out.size _).trans (hb2.mono (by rw [size_alloc]; have := hB.out.size; omega))
      have hown2 : w2.ownsRow w1.heap.size 46 6 u6 j (((PL.take j).map od).flatMap Ord.cells) := ownsRow_keep hown.out (fun g hg => by
        have := (hown.out.lt g hg).2
        rw [hb2.block g (by rw [size_alloc]; omega), heap_alloc, if_neg (by omega)])
      have HOA : Hid (∀ Ob : Obj, (w2.alloc Ob).ownsRow w1.heap.size 46 6 u6 j (((PL.take j).map od).flatMap Ord.cells)) := fun Ob => ownsRow_keep hown2 (fun g hg => by rw [heap_alloc, if_neg (by have := (hown2.lt g hg).2; omega)])
      have HOX := Hid.mk hown2
      clear hb2 hown2 hown hB d0 d1 d2 d3 d4 d5 d6 d7 HPA hgr hg hx
      go_wp2_with (at_builtin; go_must (refine wpList_append_row rfl _ _ 42 rfl w1.heap.size 46 i0 _ 6 48 und_api hi hz0 hz1 hz2 rfl (by decide) u6 j (((PL.take j).map od).flatMap Ord.cells) rfl (HOA.out _) (.slice (some ⟨w2.heap.size, 0, none⟩) 1 1) 1 o.cells rfl (rdRow_api w2 o) (cells_ones o) (by unfold maxLen; omega) (by omega) (by rw [size_alloc]; have := hB2.out.size; omega) ?_); intro rb capb w3 hown3 hg3 hv3; have hB3 : Hid (Below w1.heap.size w1 w3) := (hB2.out.alloc hB2.out.size _).grown hg3 (by rw [size_alloc]; have := hB2.out.size; omega) (fun g hg => (HOX.out.lt g hg).1); replace hown3 := Hid.mk hown3; clear hg3 hv3)
      exact ⟨⟨j + 1, by omega, by go_num, by show World.ownsRow _ _ _ _ _ _ _; rw [HTK.out]; exact hown3.out, hB3⟩, by simp [intOf]; omega⟩
    · have i2 : ¬ ((j : Int) < (nl : Int)) := by omega
      go_wp2_with fail
      go_ret2
      have : j = nl := by omega
      subst this
      have hlen : (st.book s).length = j := by rw [← HBK.out, HPL.out, List.length_map, HNL.out]
      refine ⟨_, rfl, ?_, HV.out.2.trans (hB.out.mono HV.out.2.size)⟩
      rw [hlen, ← HBK.out, HPL.out]
      have := ownsRow_low hown.out HV.out.2.size
      rwa [List.take_of_length_le (by rw [HNL.out]; exact Nat.le_refl _)] at this

end Go.Proofs.Ytphkchjejbffeaa

/- A bourse is made. -/
namespace Go.Proofs.Ytphkchjejbffeaa
open Go.RowKit
attribute [local go_sem ↓] Go.wp_at_zero Go.wp_at_succ

theorem freeC_new (n : Nat) : ∀ m a, a + m = n + 1 → 1 ≤ a → FreeC (aftN n 1) (if m = 0 then 0 else a) (List.range' a m) := by
  intro m
  induction m with
  | zero => intro a _ _; rfl
  | succ m ih =>
    intro a h ha
    rw [List.range'_succ]
    refine ⟨if_neg (by omega), by omega, ?_⟩
    have e : aftN n 1 a = if m = 0 then 0 else a + 1 := by
      unfold aftN
      by_cases hm : m = 0
      · rw [if_pos hm, if_neg (by omega)]
      · rw [if_neg hm, if_pos (by omega)]
    rw [e]
    exact ih (a + 1) (by omega) (by omega)

theorem lk_new (S L n : Nat) (hn : 1 ≤ n) : Lk S L (n + 1) 1 (fun _ _ => 0) (fun _ _ => 0) (fun _ => 0) (aftN n 1) (fun _ _ _ => []) (List.range' 1 n) := by
  refine ⟨?_, ?_, ?_, ?_, ?_, ?_, ?_⟩
  · intro s d p _
    exact ⟨trivial, rfl, rfl, List.nodup_nil⟩
  · intro s d p _ x hx; cases hx
  · intro s d p s' d' p' _ _ x hx; cases hx
  · have := freeC_new n n 1 (by omega) (by omega)
    rwa [if_neg (by omega)] at this
  · intro x hx
    have := List.mem_range'_1.1 hx
    omega
  · exact List.nodup_range'
  · intro s d p _ x hx; cases hx

theorem fi_new (S L n : Nat) (st : St) (h : Inv st) (h1 : st.stocks = S) (h2 : st.levels = L) (h3 : st.pool = n) (h4 : ∀ s d p, st.q s d p = []) (h5 : st.used = []) : Fi S L (n + 1) (fun _ => noOrd) (fun _ _ _ => []) (List.range' 1 n) (fun _ => none) st := by
  have hr : st.resting = 0 := by
    have : st.all = [] := by
      simp [St.all, St.book, St.bids, St.asks, h4]
    unfold St.resting
    rw [this]
    rfl
  refine ⟨h1.symm, h2.symm, by rw [h3], fun s d p _ => h4 s d p, by rw [List.length_range', hr, h3]; rfl, fun t => by simp [h5], fun s d p _ x hx => (by cases hx), fun t x hx => (by cases hx), h, by rw [h5]; exact List.nodup_nil, fun t ht => by rw [h5] at ht; cases ht⟩

def newC (pm bk : Nat) : BC := { opn := true, time := 0, bytes := List.replicate 13 0, have_ := 0, refs := 0, mats := 0, pm := pm, bk := bk, va := .slice none 0 0, vt := .slice none 0 0 }
def newObj (pm bk : Nat) : Obj := .cells #[.bool true, .int .u64 0, .int .u8 0, .int .u8 0, .int .u8 0, .int .u8 0, .int .u8 0, .int .u8 0, .int .u8 0, .int .u8 0, .int .u8 0, .int .u8 0, .int .u8 0, .int .u8 0, .int .u8 0, .int .i64 0, .int .u32 0, .int .u32 0, .map (some pm), .pointer (some ⟨bk, 0, none⟩), .slice none 0 0, .slice none 0 0] 81
theorem newObj_cells (pm bk : Nat) : newObj pm bk = .cells (newC pm bk).cells 81 := rfl

def bare (s l p : Nat) : St := { opened s l p with ans := [] }
theorem inv_bare (s l p : Nat) (h1 : 1 ≤ s ∧ s ≤ 8) (h2 : 1 ≤ l ∧ l ≤ 64) (h3 : 1 ≤ p ∧ p ≤ 64) : Inv (bare s l p) :=
  (Inv.opened s l p h1 h2 h3).of_q rfl rfl rfl rfl (fun _ q => q) (by show 0 < 4294967296; omega) (by show 0 < 4294967296; omega) (by show 0 < 281474976710656; omega)
theorem bare_resting (s l p : Nat) : (bare s l p).resting = 0 := by
  have : (bare s l p).all = [] := by simp [St.all, St.book, St.bids, St.asks, bare, opened]
  unfold St.resting
  rw [this]
  rfl

theorem rel_new {w w1 : World} {k : SK} {s l p : Nat} (h1 : 1 ≤ s ∧ s ≤ 8) (h2 : 1 ≤ l ∧ l ≤ 64) (h3 : 1 ≤ p ∧ p ≤ 64) (kn : k.n = p + 1) (kS : k.S = s) (kL : k.L = l) (kok : k.ok) (kF : ∀ j, k.F j → (w.alloc (.map #[] 0)).heap.size ≤ j)
    (hbk : IsBk w1 k 1 0 (fun _ _ => 0) (fun _ _ => 0) (fun _ => 0) (aftN p 1) (fun _ => noOrd)) (hb1 : Below (w.alloc (.map #[] 0)).heap.size (w.alloc (.map #[] 0)) w1) :
    Rel (w1.alloc (newObj w.heap.size k.bk)) w1.heap.size (newC w.heap.size k.bk) k (bare s l p) ∧ (∀ j, GB w1.heap.size (newC w.heap.size k.bk) k j → w.heap.size ≤ j) ∧ Below w.heap.size w (w1.alloc (newObj w.heap.size k.bk)) := by
  have hs1 := hb1.size
  rw [size_alloc] at hs1
  have hkp : ∀ j, j < w1.heap.size → (w1.alloc (newObj w.heap.size k.bk)).heap[j]? = w1.heap[j]? := fun j hj => by rw [heap_alloc, if_neg (by omega)]
  refine ⟨⟨⟨by rw [heap_alloc, if_pos rfl, newObj_cells], rfl⟩, rfl, World.ownsRow_nil _ _ _ _, World.ownsRow_nil _ _ _ _, rfl, rfl, rfl, ?_, fun _ => none, fun _ => noOrd, fun _ _ _ => [], List.range' 1 p, ⟨kok, 1, _, _, _, _, by rw [bare_resting]; exact hbk.keep (fun j hj => hkp j (hbk.lt j hj)), by rw [kS, kL, kn]; exact lk_new s l p h3.1⟩, ?_, by rw [kS, kL, kn]; exact fi_new s l p _ (inv_bare s l p h1 h2 h3) rfl rfl rfl (fun _ _ _ => rfl) rfl⟩, ?_, ?_⟩
  · refine ⟨fun e => ?_, ?_, fun e => ?_, by nofun, by nofun, by nofun, by nofun, by nofun, by nofun, by nofun⟩
    · have := hbk.lt _ e; omega
    · show w.heap.size ≠ w1.heap.size
      omega
    · have := kF _ e
      rw [size_alloc] at this
      have : w.heap.size + 1 ≤ w.heap.size := this
      omega
  · show IsM _ w.heap.size 0 _
    refine ((IsM.new w).keep (hb1.block w.heap.size (by rw [size_alloc]; omega))).keep (hkp _ (by omega))
  · intro j hj
    rcases hj with e | e | e | e | e
    · rw [e]; omega
    · rw [e]; exact Nat.le_refl _
    · have := kF j e
      rw [size_alloc] at this
      omega
    · cases e
    · cases e
  · have hA : Below w.heap.size w (w.alloc (.map #[] 0)) := (Below.refl _ _).alloc (Nat.le_refl _) _
    have hB : Below w.heap.size w w1 := hA.trans (hb1.mono (by rw [size_alloc]; omega))
    exact hB.alloc hB.size _

set_option maxRecDepth 100000 in
set_option maxHeartbeats 1000000 in
theorem new_any (s l p : Nat) (w : World) (h1 : 1 ≤ s ∧ s ≤ 8) (h2 : 1 ≤ l ∧ l ≤ 64) (h3 : 1 ≤ p ∧ p ≤ 64) :
    Calls Try.prog 27 #[.int .i64 s, .int .i64 l, .int .i64 p] w fun e w' => ∃ b c k,
      e = .returned (.tuple #[.pointer (some ⟨b, 0, none⟩), .int .i64 0]) ∧ Rel w' b c k (opened s l p) ∧ Inb c (opened s l p) ∧ (∀ j, GB b c k j → w.heap.size ≤ j) ∧ Below w.heap.size w w' := by
  have HW1 := Hid.mk (within_yes s 1 8 w (by omega) (by omega))
  have HW2 := Hid.mk (within_yes l 1 64 w (by omega) (by omega))
  have HW3 := Hid.mk (within_yes p 1 64 w (by omega) (by omega))
  have HN := Hid.mk (And.intro h1 (And.intro h2 h3))
  clear h1 h2 h3
  go_enter Try.func27, Try.ntmps27
  go_wp2_with fail
  refine HW1.out.mono ?_
  rintro e w' ⟨rfl, hw⟩
  replace hw := hw.symm
  subst hw
  clear HW1
  go_wp2_with fail
  refine HW2.out.mono ?_
  rintro e w' ⟨rfl, hw⟩
  replace hw := hw.symm
  subst hw
  clear HW2
  go_wp2_with fail
  refine HW3.out.mono ?_
  rintro e w' ⟨rfl, hw⟩
  replace hw := hw.symm
  subst hw
  clear HW3
  have hmk : (Instr.makeMap 78 none).run Try.prog w = .ok (.map (some w.heap.size)) (w.alloc (.map #[] 0)) := rfl
  go_wp2_with fail
  refine (booksNew_any s l p _ HN.out.1 HN.out.2.1 HN.out.2.2).mono ?_
  rintro e w1 ⟨k, rfl, kn, kS, kL, kok, kF, hbk, hb1⟩
  have HR := Hid.mk (rel_new HN.out.1 HN.out.2.1 HN.out.2.2 kn kS kL kok kF hbk hb1)
  clear kn kS kL kok kF hbk hb1 hmk
  go_wp2_with fail
  replace HR : Hid (Rel (w1.alloc (Obj.cells #[.bool true, .int .u64 0, .int .u8 0, .int .u8 0, .int .u8 0, .int .u8 0, .int .u8 0, .int .u8 0, .int .u8 0, .int .u8 0, .int .u8 0, .int .u8 0, .int .u8 0, .int .u8 0, .int .u8 0, .int .i64 0, .int .u32 0, .int .u32 0, .map (some w.heap.size), .pointer (some ⟨k.bk, 0, none⟩), .slice none 0 0, .slice none 0 0] 81)) w1.heap.size (newC w.heap.size k.bk) k (bare s l p) ∧ (∀ j, GB w1.heap.size (newC w.heap.size k.bk) k j → w.heap.size ≤ j) ∧ Below w.heap.size w (w1.alloc (Obj.cells #[.bool true, .int .u64 0, .int .u8 0, .int .u8 0, .int .u8 0, .int .u8 0, .int .u8 0, .int .u8 0, .int .u8 0, .int .u8 0, .int .u8 0, .int .u8 0, .int .u8 0, .int .u8 0, .int .u8 0, .int .i64 0, .int .u32 0, .int .u32 0, .map (some w.heap.size), .pointer (some ⟨k.bk, 0, none⟩), .slice none 0 0, .slice none 0 0] 81))) := HR
  generalize w1.alloc (Obj.cells #[.bool true, .int .u64 0, .int .u8 0, .int .u8 0, .int .u8 0, .int .u8 0, .int .u8 0, .int .u8 0, .int .u8 0, .int .u8 0, .int .u8 0, .int .u8 0, .int .u8 0, .int .u8 0, .int .u8 0, .int .i64 0, .int .u32 0, .int .u32 0, .map (some w.heap.size), .pointer (some ⟨k.bk, 0, none⟩), .slice none 0 0, .slice none 0 0] 81) = W at HR ⊢
  have hR := HR.out.1
  refine (tellOpened_any w1.heap.size _ [] W hR.B (by show 0 < 18446744073709551616; omega) (by show 0 < 4294967296; omega) hR.A (by nofun) (by show 0 + 64 ≤ 140737488355328; omega)).mono ?_
  rintro e w2 ⟨rfl, ht⟩
  obtain ⟨c2, hR2, hS2, -, -⟩ := hR.tellA (l := [79, 0, 0, 0, 0, 0, 0]) ht (show (79 :: enc 0 6 : List UInt8) = [79, 0, 0, 0, 0, 0, 0] by decide +kernel)
  have HX : Hid (Rel w2 w1.heap.size c2 k (opened s l p) ∧ Inb c2 (opened s l p) ∧ (∀ j, GB w1.heap.size c2 k j → w.heap.size ≤ j) ∧ Below w.heap.size w w2) := by
    refine ⟨hR2, ⟨hS2.opn, hS2.have_, by rw [hS2.have_]; rfl, Or.inl hS2.have_⟩, ?_, ?_⟩
    · intro j hj
      rcases hS2.sub j hj with e | e
      · exact HR.out.2.1 j e
      · exact Nat.le_trans HR.out.2.2.size e
    · exact HR.out.2.2.trans (hS2.fr.below (HR.out.2.2.size) HR.out.2.1)
  clear ht hR2 hS2 hR HR
  go_wp2_with fail
  go_ret2
  exact ⟨_, c2, k, rfl, HX.out⟩

end Go.Proofs.Ytphkchjejbffeaa

/- The program's calls do what the document says. -/
namespace Go.Proofs.Ytphkchjejbffeaa
open Go.RowKit

/-- In the world the bourse at block b, with the blocks G, is as st says. -/
def AtR (w : World) (b : Nat) (G : Nat → Prop) (st : St) : Prop := ∃ c k, Rel w b c k st ∧ Inb c st ∧ G = GB b c k

theorem slice_of {w : World} {b : Nat} {v : Value} {l : List UInt8} (h : Own w b v l) : ∃ a n k, v = .slice a n k := by
  obtain ⟨a, cap, h1, -⟩ := h.len
  exact ⟨a, _, cap, h1⟩

theorem rel_told {w w' : World} {b : Nat} {c : BC} {k : SK} {st : St} (h : Rel w b c k st) (hB : IsB w' b { c with va := .slice none 0 0 }) (hf : Fr (fun j => j = b) w w') : Rel w' b { c with va := .slice none 0 0 } k st.told := by
  have hd := h.dist
  obtain ⟨M, od, ps, fl, h1, h2, h3⟩ := h.ex
  refine ⟨hB, h.bk, World.ownsRow_nil _ _ _ _, h.T.keep (fun g hg => hf.block g (Own.lt h.T g hg).2 (fun e => hd.tb (e ▸ hg))), h.time, h.refs, h.mats, ?_, M, od, ps, fl, h1.fr hf (fun j hj e => hd.bF (e ▸ hj)), h2.keep (hf.block _ h2.lt hd.pb), h3.of_st (h.inv.of_q rfl rfl rfl rfl (fun _ q => q) h.inv.refs h.inv.mats h.inv.time) rfl rfl rfl rfl rfl⟩
  exact ⟨hd.bF, hd.pb, hd.pF, by nofun, by nofun, by nofun, hd.tb, hd.tp, hd.tF, by nofun⟩
theorem rel_taped {w w' : World} {b : Nat} {c : BC} {k : SK} {st : St} (h : Rel w b c k st) (hB : IsB w' b { c with vt := .slice none 0 0 }) (hf : Fr (fun j => j = b) w w') : Rel w' b { c with vt := .slice none 0 0 } k st.taped := by
  have hd := h.dist
  obtain ⟨M, od, ps, fl, h1, h2, h3⟩ := h.ex
  refine ⟨hB, h.bk, h.A.keep (fun g hg => hf.block g (Own.lt h.A g hg).2 (fun e => hd.ab (e ▸ hg))), World.ownsRow_nil _ _ _ _, h.time, h.refs, h.mats, ?_, M, od, ps, fl, h1.fr hf (fun j hj e => hd.bF (e ▸ hj)), h2.keep (hf.block _ h2.lt hd.pb), h3.of_st (h.inv.of_q rfl rfl rfl rfl (fun _ q => q) h.inv.refs h.inv.mats h.inv.time) rfl rfl rfl rfl rfl⟩
  exact ⟨hd.bF, hd.pb, hd.pF, hd.ab, hd.ap, hd.aF, by nofun, by nofun, by nofun, fun _ _ => by nofun⟩

theorem the_api : Api AtR where
  lt := by
    rintro w b G st ⟨c, k, h, hi, rfl⟩ j hj
    exact h.lt j hj
  keep := by
    rintro w w' b G st ⟨c, k, h, hi, rfl⟩ hk
    exact ⟨c, k, h.keep hk, hi, rfl⟩
  new := by
    intro s l p w s1 s2 l1 l2 p1 p2
    obtain ⟨s, rfl⟩ : ∃ n : Nat, s = n := ⟨s.toNat, by omega⟩
    obtain ⟨l, rfl⟩ : ∃ n : Nat, l = n := ⟨l.toNat, by omega⟩
    obtain ⟨p, rfl⟩ : ∃ n : Nat, p = n := ⟨p.toNat, by omega⟩
    refine (new_any s l p w ⟨by omega, by omega⟩ ⟨by omega, by omega⟩ ⟨by omega, by omega⟩).mono ?_
    rintro e w' ⟨b, c, k, rfl, h1, h2, h3, h4⟩
    exact ⟨b, GB b c k, rfl, ⟨c, k, h1, h2, rfl⟩, h3, h4⟩
  feed := by
    rintro b G st v l w ⟨c, k, h, hi, rfl⟩ hrd ha ht
    refine (feed_any b c k st v l w h hi hrd ha ht).mono ?_
    rintro e w' ⟨rfl, c', h1, h2, h3, h4⟩
    exact ⟨GB b c' k, rfl, ⟨c', k, h1, h2, rfl⟩, h4, h3⟩
  tick := by
    rintro b G st n w ⟨c, k, h, hi, rfl⟩ n0 n1
    obtain ⟨n, rfl⟩ : ∃ m : Nat, n = m := ⟨n.toNat, by omega⟩
    have htm := h.inv.time
    have hct := h.time
    refine (tick_any b c n w h.B (by omega) (by omega)).mono ?_
    rintro e w' ⟨rfl, hB, hf⟩
    have ho := h.own (c' := { c with time := (c.time + n) % 281474976710656 }) (st' := st.tick n) hB hf rfl rfl rfl rfl rfl rfl (by show (c.time + n) % 281474976710656 = (st.time + n) % 281474976710656; rw [hct]) h.refs h.mats
      (h.inv.of_q rfl rfl rfl rfl (fun _ q => q) h.inv.refs h.inv.mats (Nat.mod_lt _ (by omega))) rfl rfl rfl rfl rfl
    exact ⟨rfl, ⟨_, k, ho.1, ⟨hi.opn, hi.len, hi.took, hi.less⟩, rfl⟩, ho.2.1⟩
  answers := by
    rintro b G st w ⟨c, k, h, hi, rfl⟩
    refine (answers_any b c w h.B (slice_of h.A)).mono ?_
    rintro e w' ⟨rfl, hB, hf⟩
    have hd := h.dist
    refine ⟨c.va, GB b { c with va := .slice none 0 0 } k, rfl, h.A.keep (fun g hg => hf.block g (Own.lt h.A g hg).2 (fun e => hd.ab (e ▸ hg))), ⟨_, k, rel_told h hB hf, ⟨hi.opn, hi.len, hi.took, hi.less⟩, rfl⟩, ?_, ?_, hf.mono (fun j _ e => Or.inl e)⟩
    · rintro j (e | e | e | e | e)
      · exact Or.inl (Or.inl e)
      · exact Or.inl (Or.inr (Or.inl e))
      · exact Or.inl (Or.inr (Or.inr (Or.inl e)))
      · cases e
      · exact Or.inl (Or.inr (Or.inr (Or.inr (Or.inr e))))
    · intro g hg
      refine ⟨Or.inl (Or.inr (Or.inr (Or.inr (Or.inl hg)))), ?_⟩
      rintro (e | e | e | e | e)
      · exact hd.ab (e ▸ hg)
      · exact hd.ap (hg.trans (congrArg some e))
      · exact hd.aF g hg e
      · cases e
      · exact hd.atb g hg e
  tape := by
    rintro b G st w ⟨c, k, h, hi, rfl⟩
    refine (tape_any b c w h.B (slice_of h.T)).mono ?_
    rintro e w' ⟨rfl, hB, hf⟩
    have hd := h.dist
    refine ⟨c.vt, GB b { c with vt := .slice none 0 0 } k, rfl, h.T.keep (fun g hg => hf.block g (Own.lt h.T g hg).2 (fun e => hd.tb (e ▸ hg))), ⟨_, k, rel_taped h hB hf, ⟨hi.opn, hi.len, hi.took, hi.less⟩, rfl⟩, ?_, ?_, hf.mono (fun j _ e => Or.inl e)⟩
    · rintro j (e | e | e | e | e)
      · exact Or.inl (Or.inl e)
      · exact Or.inl (Or.inr (Or.inl e))
      · exact Or.inl (Or.inr (Or.inr (Or.inl e)))
      · exact Or.inl (Or.inr (Or.inr (Or.inr (Or.inl e))))
      · cases e
    · intro g hg
      refine ⟨Or.inl (Or.inr (Or.inr (Or.inr (Or.inr hg)))), ?_⟩
      rintro (e | e | e | e | e)
      · exact hd.tb (e ▸ hg)
      · exact hd.tp (hg.trans (congrArg some e))
      · exact hd.tF g hg e
      · exact hd.atb g e hg
      · cases e
  look := by
    rintro b G st w ⟨c, k, h, hi, rfl⟩
    exact look_any b c k st w h hi
  book := by
    rintro b G st s w ⟨c, k, h, hi, rfl⟩ s0 s1
    obtain ⟨s, rfl⟩ : ∃ n : Nat, s = n := ⟨s.toNat, by omega⟩
    exact book_any b c k st s w h (by omega)

end Go.Proofs.Ytphkchjejbffeaa
