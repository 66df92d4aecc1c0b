/- The walk of Build. -/
import Derived.Test.YtphkchjejbffeaaGreatG22
namespace Go.Proofs.YtphkchjejbffeaaGreat
open Go.RowKit
attribute [local go_sem ↓] Go.wp_at_zero Go.wp_at_succ

theorem ch_len (t : Nat) (f : Ord → Ord) (L : List Ord) : (chL t f L).length = L.length := by unfold chL; rw [List.length_map]
theorem fol_len {L L' : List Ord} {c : UInt8} {f : List UInt8} (h : fol L c f = some L') : L'.length = L.length ∨ (L'.length = L.length + 1 ∧ 17 ≤ tSize c) := by
  unfold fol at h
  split at h
  · rename_i hc
    unfold fRests at h
    split at h
    · cases h
    · cases h
      right
      exact ⟨by simp, by rw [hc]; decide⟩
  · split at h
    · unfold fExec at h
      split at h
      · cases h
      · cases h
        exact .inl (ch_len _ _ _)
    · split at h
      · unfold fLess at h
        split at h
        · cases h
        · cases h
          exact .inl (ch_len _ _ _)
      · split at h
        · unfold fGone at h
          split at h
          · cases h
          · cases h
            exact .inl (ch_len _ _ _)
        · split at h
          · rename_i hc
            unfold fSwap at h
            split at h
            · cases h
            · split at h
              · cases h
              · split at h
                · cases h
                  exact .inl (ch_len _ _ _)
                · cases h
                  right
                  refine ⟨?_, by rw [hc]; decide⟩
                  rw [List.length_append]
                  show (chL _ _ L).length + 1 = _
                  rw [ch_len]
          · cases h

/-- What Build answers. -/
def BuiltP (w : World) (tape : List UInt8) (e : Ending) (w' : World) : Prop :=
  Below w.heap.size w w' ∧
  ((∃ L v C, (built tape).1 = some L ∧ e = .returned (.tuple #[v, .int .i64 0, .int .i64 0]) ∧ Srt (ltc byB) C ∧ Cls (ltc byB) (L.filter alive) C ∧ w'.ownsRow w.heap.size 40 6 v C.length (C.flatMap Ord.cells)) ∨
   ((built tape).1 = none ∧ e = .returned (.tuple #[.slice none 0 0, .int .i64 ((tape.length : Int) - ((built tape).2.length : Int)), .int .i64 2])))

theorem tb_nil (k : Nat) (L : List Ord) : tb k L [] = (some L, []) := by
  cases k with
  | zero => rfl
  | succ k => rfl
theorem tb_bad {k : Nat} {L : List Ord} {b : List UInt8} (hk : b.length ≤ k) (hb : b ≠ []) (h : tSize (byteAt b 0) = 0 ∨ b.length < tSize (byteAt b 0)) : tb k L b = (none, b) := by
  cases k with
  | zero => exact absurd (List.length_eq_zero_iff.1 (by omega)) hb
  | succ k =>
    show (if _ then _ else _) = _
    rw [if_neg hb, if_pos h]
theorem tb_fol {k : Nat} {L : List Ord} {b : List UInt8} (hk : b.length ≤ k) (hb : b ≠ []) (h : ¬ (tSize (byteAt b 0) = 0 ∨ b.length < tSize (byteAt b 0))) :
    (fol L (byteAt b 0) ((b.take (tSize (byteAt b 0))).drop 7) = none → tb k L b = (none, b)) ∧
    (∀ L', fol L (byteAt b 0) ((b.take (tSize (byteAt b 0))).drop 7) = some L' → ∃ k', (b.drop (tSize (byteAt b 0))).length ≤ k' ∧ tb k L b = tb k' L' (b.drop (tSize (byteAt b 0)))) := by
  cases k with
  | zero => exact absurd (List.length_eq_zero_iff.1 (by omega)) hb
  | succ k =>
    have e : tb (k + 1) L b = match fol L (byteAt b 0) ((b.take (tSize (byteAt b 0))).drop 7) with
      | none => (none, b)
      | some L' => tb k L' (b.drop (tSize (byteAt b 0))) := by
      show (if _ then _ else _) = _
      rw [if_neg hb, if_neg h]
      rfl
    refine ⟨fun h1 => by rw [e, h1], fun L' h1 => ⟨k, ?_, by rw [e, h1]⟩⟩
    rw [List.length_drop]
    omega

theorem rb_new (w : World) : RbAt ((w.alloc (.map #[] 0)).alloc (.cells #[.slice none 0 0, .map (some w.heap.size)] 65)) w.heap.size (w.heap.size + 1) [] := by
  refine ⟨.slice none 0 0, w.heap.size, 0, fun _ => none, RbC.mk' ?_ (World.ownsRow_nil _ _ _ _) ?_ (by omega) (Nat.le_refl _), Ix.nil, Nat.le_refl _, fun o ho => by cases ho⟩
  · rw [heap_alloc, if_pos (by rw [size_alloc])]
  · exact (IsM.new w).keep (by rw [heap_alloc, if_neg (by rw [size_alloc]; omega)])

set_option maxRecDepth 100000 in
set_option maxHeartbeats 4000000 in
theorem build_any (w : World) (v : Value) (tape : List UInt8) (hv : Rd w (fun _ => False) v tape) (hlen : tape.length ≤ 40000000000000) :
    Calls Tryz.prog 10 #[v] w (BuiltP w tape) := by
  obtain ⟨ra, n0, cap, rfl, hn0, hcap, HL⟩ : ∃ ra n0 cap, v = .slice ra n0 cap ∧ n0 = tape.length ∧ (n0 ≤ cap ∧ cap ≤ 9223372036854775807) ∧ Hid (tape ≠ [] → ∃ g o, ra = some ⟨g, o, none⟩ ∧ Lies w g o tape ∧ g < w.heap.size) := by
    rcases hv with ⟨rfl, rfl⟩ | ⟨g, o, cap, rfl, h1, h2, h3, -, h5⟩
    · exact ⟨none, 0, 0, rfl, rfl, ⟨by omega, by omega⟩, fun h => absurd rfl h⟩
    · exact ⟨_, _, cap, rfl, rfl, ⟨h2, by unfold maxLen at h3; omega⟩, fun _ => ⟨g, o, rfl, h1, h5⟩⟩
  have hmk : (Instr.makeMap 62 none).run Tryz.prog w = .ok (.map (some w.heap.size)) (w.alloc (.map #[] 0)) := rfl
  have HN0 := Hid.mk hn0
  have hn1 : (n0 : Int) ≤ 40000000000000 := by omega
  have HRB := Hid.mk (rb_new w)
  clear hv hlen hn0
  go_enter Tryz.func10, Tryz.ntmps10
  go_wp2_with fail
  have HB0 : Hid (Below w.heap.size w ((w.alloc (.map #[] 0)).alloc (.cells #[.slice none 0 0, .map (some w.heap.size)] 65))) := Below.alloc ((Below.refl _ w).alloc (Nat.le_refl _) _) (by rw [size_alloc]; omega) _
  go_loopw [6] (fun vb wr => ∃ (rb : Option Addr) (nb cb : Nat), vb = .slice rb nb cb ∧ nb ≤ cb ∧ cb ≤ 9223372036854775807 ∧ nb ≤ n0 ∧ Hid (∃ (k : Nat) (b : List UInt8) (L : List Ord), tb k L b = built tape ∧ b.length ≤ k ∧ nb = b.length ∧ (b ≠ [] → ∃ g o, rb = some ⟨g, o, none⟩ ∧ Lies w g o b ∧ g < w.heap.size) ∧ RbAt wr w.heap.size (w.heap.size + 1) L ∧ 17 * L.length + b.length ≤ tape.length ∧ Below w.heap.size w wr)) (fun vb _ => match vb with | .slice _ nb _ => nb | _ => 0)
  case atStart => exact ⟨ra, n0, cap, rfl, hcap.1, hcap.2, Nat.le_refl _, tape.length, tape, [], rfl, Nat.le_refl _, HN0.out, HL.out, HRB.out, by simp, HB0.out⟩
  case round =>
    obtain ⟨rb, nb, cb, rfl, hb1, hb2, hb3, HI⟩ := hrel
    by_cases hz : nb = 0
    · have i1 : ¬ (0 : Int) < (nb : Int) := by omega
      have HX : Hid (∃ L, (built tape).1 = some L ∧ RbAt wr w.heap.size (w.heap.size + 1) L ∧ L.length ≤ 2900000000000 ∧ Below w.heap.size w wr) := by
        obtain ⟨k, b, L, e1, e2, e3, e4, e5, e6, e7⟩ := HI.out
        have hbn : b = [] := List.length_eq_zero_iff.1 (by omega)
        subst hbn
        rw [tb_nil] at e1
        refine ⟨L, by rw [← e1], e5, ?_, e7⟩
        have := HN0.out
        omega
      obtain ⟨L, x1, x2, x3, x4⟩ := HX.out
      have HLI := Hid.mk (list_any x2 x3)
      have HX1 := Hid.mk (And.intro x1 x4)
      clear HI HX x1 x2 x3 x4 hz
      go_wp2_with fail
      refine HLI.out.mono ?_
      rintro e w2 ⟨v2, C, rfl, c1, c2, c3, c4⟩
      have H2 := Hid.mk (And.intro c1 (And.intro c2 (And.intro c3 c4)))
      clear c1 c2 c3 c4
      go_wp2_with fail
      refine bodyPost_ret (v := .tuple #[v2, .int .i64 0, .int .i64 0]) (by simp [results, Tryz.results10, go_sem]) rfl ?_
      refine ⟨HX1.out.2.trans (H2.out.2.2.2.mono HX1.out.2.size), Or.inl ⟨L, v2, C, HX1.out.1, rfl, H2.out.1, H2.out.2.1, ?_⟩⟩
      exact ownsRow_base H2.out.2.2.1 HX1.out.2.size
    · have i1 : (0 : Int) < (nb : Int) := by omega
      obtain ⟨k, b, L, e1, e2, e3, e4, e5, e6, e7⟩ := HI.out
      have hbne : b ≠ [] := fun e => hz (by rw [e3, e]; rfl)
      obtain ⟨g, o, rfl, hli, hgl⟩ := e4 hbne
      have hlw : Lies wr g o b := hli.keep (e7.block g hgl)
      have c0 : wr.cell? ⟨g, o, none⟩ = some (.int .u8 (byteAt b 0).toNat) := hlw.cell 0 (by omega)
      have HTB := Hid.mk (tapeBytes_any (byteAt b 0) wr)
      obtain ⟨sz, hsz⟩ : ∃ sz, tSize (byteAt b 0) = sz := ⟨_, rfl⟩
      rw [hsz] at HTB
      have hszc : sz = 0 ∨ (11 ≤ sz ∧ sz ≤ 19) := by
        rcases tSize_cases (byteAt b 0) with e | ⟨-, e⟩ | ⟨-, e⟩ | ⟨-, e⟩ | ⟨-, e⟩ | ⟨-, e⟩ <;> omega
      have hgw : g < wr.heap.size := Nat.lt_of_lt_of_le hgl e7.size
      have HE := Hid.mk (And.intro e1 (And.intro e2 (And.intro e3 (And.intro hli (And.intro hlw (And.intro e5 (And.intro e6 (And.intro e7 (And.intro hbne hsz)))))))))
      have HT : Hid ((tape.length : Int) = (n0 : Int) ∧ (b.length : Int) = (nb : Int)) := ⟨by have := HN0.out; omega, by omega⟩
      clear HI e1 e2 e3 e4 e5 e6 e7 hli hlw hbne hsz hz
      have i2 : (nb : Int) ≤ (n0 : Int) := by omega
      have w1 : IntKind.i64.wrap ((n0 : Int) - (nb : Int)) = (n0 : Int) - (nb : Int) := by rw [IntKind.wrap_i64]; omega
      go_wp2_with fail
      refine HTB.out.mono ?_
      rintro e w2 ⟨rfl, hw⟩
      replace hw := hw.symm
      subst hw
      clear HTB
      by_cases hs0 : sz = 0
      · have b0 : ((sz : Int) == 0) = true := by simp [hs0]
        have HR : Hid (built tape = (none, b)) := by
          obtain ⟨e1, e2, e3, -, -, -, -, -, hbne, hsz⟩ := HE.out
          rw [← e1]
          exact tb_bad e2 hbne (Or.inl (by omega))
        clear hs0 hszc c0
        go_wp2_with fail
        refine bodyPost_ret (v := .tuple #[.slice none 0 0, .int .i64 ((n0 : Int) - (nb : Int)), .int .i64 2]) (by simp [results, Tryz.results10, go_sem]) rfl ?_
        refine ⟨HE.out.2.2.2.2.2.2.2.1, Or.inr ⟨by rw [HR.out], ?_⟩⟩
        rw [HR.out, HT.out.1, HT.out.2]
      · have b0 : ((sz : Int) == 0) = false := by rw [beq_eq_false_iff_ne]; omega
        have hs1 : 11 ≤ sz ∧ sz ≤ 19 := by omega
        by_cases hlt : nb < sz
        · have b1 : (nb : Int) < (sz : Int) := by omega
          have HR : Hid (built tape = (none, b)) := by
            obtain ⟨e1, e2, e3, -, -, -, -, -, hbne, hsz⟩ := HE.out
            rw [← e1]
            exact tb_bad e2 hbne (Or.inr (by omega))
          clear hs0 hszc c0
          go_wp2_with fail
          refine bodyPost_ret (v := .tuple #[.slice none 0 0, .int .i64 ((n0 : Int) - (nb : Int)), .int .i64 2]) (by simp [results, Tryz.results10, go_sem]) rfl ?_
          refine ⟨HE.out.2.2.2.2.2.2.2.1, Or.inr ⟨by rw [HR.out], ?_⟩⟩
          rw [HR.out, HT.out.1, HT.out.2]
        · have b1 : ¬ (nb : Int) < (sz : Int) := by omega
          have b2 : (7 : Int) ≤ (sz : Int) := by omega
          have b3 : (sz : Int) ≤ (cb : Int) := by omega
          have b4 : ¬ cb = 7 := by omega
          have b5 : (sz : Int) ≤ (nb : Int) := by omega
          have b6 : (nb : Int) ≤ (cb : Int) := by omega
          have HFO : Hid (∀ n7, sz - 7 = n7 → Calls Tryz.prog 19 #[.pointer (some ⟨w.heap.size + 1, 0, none⟩), .int .u8 (byteAt b 0).toNat, .slice (some ⟨g, o + 7, none⟩) n7 (cb - 7)] wr (FolP (fol L (byteAt b 0) ((b.take sz).drop 7)) w.heap.size (w.heap.size + 1) wr)) := by
            rintro n7 rfl
            obtain ⟨e1, e2, e3, hli, hlw, e5, e6, e7, hbne, hsz⟩ := HE.out
            have hN := HN0.out
            exact follow_any e5 e7.size (by omega) (byteAt b 0) g (o + 7) (sz - 7) (cb - 7) ((b.take sz).drop 7) (by rw [List.length_drop, List.length_take]; omega) (by rw [hsz]) (by omega) (by omega) (by omega) ((hlw.take sz).drop 7) hgw
          have HF2 : Hid ((fol L (byteAt b 0) ((b.take sz).drop 7) = none → built tape = (none, b)) ∧ (∀ L', fol L (byteAt b 0) ((b.take sz).drop 7) = some L' → 17 * L'.length + (b.drop sz).length ≤ tape.length ∧ ∃ k', (b.drop sz).length ≤ k' ∧ tb k' L' (b.drop sz) = built tape)) := by
            obtain ⟨e1, e2, e3, hli, hlw, e5, e6, e7, hbne, hsz⟩ := HE.out
            have := tb_fol (L := L) e2 hbne (by omega)
            rw [hsz, e1] at this
            refine ⟨this.1, fun L' h' => ?_⟩
            obtain ⟨k', x1, x2⟩ := this.2 L' h'
            refine ⟨?_, k', x1, x2.symm⟩
            have hfl := fol_len h'
            rw [hsz] at hfl
            rw [List.length_drop]
            omega
          generalize fol L (byteAt b 0) ((b.take sz).drop 7) = res at *
          clear hs0 hszc
          go_wp2_with fail
          refine (HFO.out _ rfl).mono ?_
          rintro e w2 ⟨hB2, ⟨hr2, rfl⟩ | ⟨L2, hr2, rfl, hR2⟩⟩
          · have H2 := Hid.mk (And.intro hB2 (HF2.out.1 hr2))
            clear hB2 hr2 HFO c0
            go_wp2_with fail
            refine bodyPost_ret (v := .tuple #[.slice none 0 0, .int .i64 ((n0 : Int) - (nb : Int)), .int .i64 2]) (by simp [results, Tryz.results10, go_sem]) rfl ?_
            refine ⟨HE.out.2.2.2.2.2.2.2.1.trans H2.out.1, Or.inr ⟨by rw [H2.out.2], ?_⟩⟩
            rw [H2.out.2, HT.out.1, HT.out.2]
          · have H2 := Hid.mk (And.intro hB2 (And.intro hR2 (HF2.out.2 L2 hr2)))
            clear hB2 hr2 hR2 HFO c0
            have HNX : Hid (∀ (rb' : Option Addr) (nb' cb' : Nat), nb' = nb - sz → (cb ≠ sz → rb' = some ⟨g, o + sz, none⟩) → ∃ (k : Nat) (b : List UInt8) (L : List Ord), tb k L b = built tape ∧ b.length ≤ k ∧ nb' = b.length ∧ (b ≠ [] → ∃ g o, rb' = some ⟨g, o, none⟩ ∧ Lies w g o b ∧ g < w.heap.size) ∧ RbAt w2 w.heap.size (w.heap.size + 1) L ∧ 17 * L.length + b.length ≤ tape.length ∧ Below w.heap.size w w2) := by
              intro rb' nb' cb' h1 h2
              obtain ⟨e1, e2, e3, hli, hlw, e5, e6, e7, hbne, hsz⟩ := HE.out
              obtain ⟨y1, y2, y3, k', y4, y5⟩ := H2.out
              refine ⟨k', b.drop sz, L2, y5, y4, by rw [List.length_drop]; omega, ?_, y2, y3, e7.trans y1⟩
              intro hne
              have hlen : (b.drop sz).length ≠ 0 := fun e => hne (List.length_eq_zero_iff.1 e)
              rw [List.length_drop] at hlen
              exact ⟨g, o + sz, h2 (by omega), hli.drop sz, hgl⟩
            by_cases hcs : cb = sz
            · subst hcs
              have hnb : nb = cb := by omega
              subst hnb
              go_wp2_with fail
              refine ⟨⟨_, 0, 0, rfl, Nat.le_refl _, by omega, Nat.zero_le _, HNX.out _ 0 0 (by omega) (fun h => absurd rfl h)⟩, ?_⟩
              show 0 < nb
              omega
            · have b7 : ¬ cb = sz := hcs
              go_wp2_with fail
              refine ⟨⟨_, nb - sz, cb - sz, rfl, by omega, by omega, by omega, HNX.out _ (nb - sz) (cb - sz) rfl (fun _ => rfl)⟩, ?_⟩
              show nb - sz < nb
              omega

end Go.Proofs.YtphkchjejbffeaaGreat

/- Each step puts on the tape what it does: plain. -/
namespace Go.Proofs.YtphkchjejbffeaaGreat

theorem at_app (x r : List UInt8) (i j n : Nat) (h : i = x.length + j) : at_ (x ++ r) i n = at_ r j n := by
  unfold at_
  rw [h, List.drop_append]
  rw [List.drop_of_length_le (by omega), List.nil_append]
  congr 3
  omega
theorem at_enc (v n : Nat) (r : List UInt8) (h : v < 256 ^ n) : at_ (enc v n ++ r) 0 n = v := by
  unfold at_
  rw [List.drop_zero, List.take_append_of_le_length (by rw [enc_length]; exact Nat.le_refl _), List.take_of_length_le (by rw [enc_length]; exact Nat.le_refl _), num_enc, Nat.mod_eq_of_lt h]
theorem at_enc0 (v n : Nat) (h : v < 256 ^ n) : at_ (enc v n) 0 n = v := by
  have := at_enc v n [] h
  rwa [List.append_nil] at this
theorem byte_app (x r : List UInt8) (i j : Nat) (h : i = x.length + j) : byteAt (x ++ r) i = byteAt r j := by
  unfold byteAt
  rw [h, List.getD_eq_getElem?_getD, List.getD_eq_getElem?_getD, List.getElem?_append_right (by omega), Nat.add_sub_cancel_left]

theorem Tq.mem_low {q : Nat → UInt8 → Nat → List Ord} {R : Nat} {L : List Ord} (h : Tq q R L) {s : Nat} {d : UInt8} {p : Nat} {f : Ord} (hf : f ∈ q s d p) : f.ref ≤ R := by
  have : tok0 f ∈ L.filter (inK s d p) := by rw [h.cls]; exact List.mem_map.2 ⟨f, hf, rfl⟩
  exact h.low (tok0 f) (List.mem_filter.1 this).1

/-- Shares go away from an order of the books. -/
theorem Tq.less {q : Nat → UInt8 → Nat → List Ord} {R : Nat} {L : List Ord} (h : Tq q R L) {s : Nat} {d : UInt8} {p : Nat} {l1 l2 : List Ord} {f : Ord} (hq : q s d p = l1 ++ f :: l2) (hf : Fits s d p f) (n : Nat) :
    leftL L f.ref = f.shares ∧ Tq (updq q s d p (l1 ++ (liveO { f with shares := f.shares - n } ++ l2))) R (lessL f.ref n L) := by
  obtain ⟨h1, h2⟩ := h.turn hq (y := { f with shares := f.shares - n }) hf.stock hf.side hf.price (.inr (.inl rfl)) (fun o => { o with shares := o.shares - n }) rfl
  have := h.mem_low (s := s) (d := d) (p := p) (f := f) (by rw [hq]; simp)
  exact ⟨(liv_left h1).trans rfl, h2.le (by show max R f.ref ≤ R; omega)⟩

theorem msg_exec {L : List Ord} (tm : List UInt8) (ht : tm.length = 6) (r n m : Nat) (hr : r < 4294967296) (hn : n < 65536) (h1 : 1 ≤ n) (h2 : n ≤ leftL L r) : Bld (101 :: tm ++ enc r 4 ++ enc n 2 ++ enc m 4) L (lessL r n L) := by
  have e : 101 :: tm ++ enc r 4 ++ enc n 2 ++ enc m 4 = 101 :: (tm ++ (enc r 4 ++ (enc n 2 ++ enc m 4))) := by simp
  rw [e]
  refine Bld.one 101 tm _ ht (by simp [ht, enc_length, tSize]) ?_
  have e1 : at_ (enc r 4 ++ (enc n 2 ++ enc m 4)) 0 4 = r := at_enc _ _ _ (by omega)
  have e2 : at_ (enc r 4 ++ (enc n 2 ++ enc m 4)) 4 2 = n := by
    rw [at_app _ _ 4 0 2 (by rw [enc_length])]
    exact at_enc _ _ _ (by omega)
  show fExec L _ = _
  unfold fExec
  rw [e1, e2, if_neg (by omega)]
theorem msg_less {L : List Ord} (tm : List UInt8) (ht : tm.length = 6) (r n : Nat) (hr : r < 4294967296) (hn : n < 65536) (h1 : 1 ≤ n) (h2 : n < leftL L r) : Bld (120 :: tm ++ enc r 4 ++ enc n 2) L (lessL r n L) := by
  have e : 120 :: tm ++ enc r 4 ++ enc n 2 = 120 :: (tm ++ (enc r 4 ++ enc n 2)) := by simp
  rw [e]
  refine Bld.one 120 tm _ ht (by simp [ht, enc_length, tSize]) ?_
  have e1 : at_ (enc r 4 ++ enc n 2) 0 4 = r := at_enc _ _ _ (by omega)
  have e2 : at_ (enc r 4 ++ enc n 2) 4 2 = n := by
    rw [at_app _ _ 4 0 2 (by rw [enc_length])]
    exact at_enc0 _ _ (by omega)
  show fLess L _ = _
  unfold fLess
  rw [e1, e2, if_neg (by omega)]
theorem msg_gone {L : List Ord} (tm : List UInt8) (ht : tm.length = 6) (r n : Nat) (hr : r < 4294967296) (h1 : 1 ≤ n) (h2 : leftL L r = n) : Bld (100 :: tm ++ enc r 4) L (lessL r n L) := by
  refine Bld.one 100 tm _ ht (by simp [ht, enc_length, tSize]) ?_
  have e1 : at_ (enc r 4) 0 4 = r := at_enc0 _ _ (by omega)
  show fGone L _ = _
  unfold fGone
  rw [e1, h2, if_neg (by omega)]
theorem msg_rest {L : List Ord} (tm : List UInt8) (ht : tm.length = 6) (o : Ord) (h1 : o.ref < 4294967296) (h2 : o.side = 66 ∨ o.side = 83) (h3 : o.stock < 256) (h4 : o.price < 65536) (h5 : o.shares < 65536) (h6 : o.shares ≠ 0) (h7 : leftL L o.ref = 0) :
    Bld (97 :: tm ++ enc o.ref 4 ++ [o.side, UInt8.ofNat o.stock] ++ enc o.shares 2 ++ enc o.price 2) L (L ++ [tok0 o]) := by
  have e : 97 :: tm ++ enc o.ref 4 ++ [o.side, UInt8.ofNat o.stock] ++ enc o.shares 2 ++ enc o.price 2 = 97 :: (tm ++ (enc o.ref 4 ++ ([o.side, UInt8.ofNat o.stock] ++ (enc o.shares 2 ++ enc o.price 2)))) := by simp
  rw [e]
  refine Bld.one 97 tm _ ht (by simp [ht, enc_length, tSize]) ?_
  generalize hf : enc o.ref 4 ++ ([o.side, UInt8.ofNat o.stock] ++ (enc o.shares 2 ++ enc o.price 2)) = f
  have e1 : at_ f 0 4 = o.ref := by rw [← hf]; exact at_enc _ _ _ (by omega)
  have e2 : byteAt f 4 = o.side := by rw [← hf, byte_app _ _ 4 0 (by rw [enc_length])]; rfl
  have e3 : (byteAt f 5).toNat = o.stock := by rw [← hf, byte_app _ _ 5 1 (by rw [enc_length])]; show (UInt8.ofNat o.stock).toNat = _; simp; omega
  have e4 : at_ f 6 2 = o.shares := by rw [← hf, at_app _ _ 6 2 2 (by rw [enc_length]), at_app _ _ 2 0 2 rfl]; exact at_enc _ _ _ (by omega)
  have e5 : at_ f 8 2 = o.price := by rw [← hf, at_app _ _ 8 4 2 (by rw [enc_length]), at_app _ _ 4 2 2 rfl, at_app _ _ 2 0 2 (by rw [enc_length])]; exact at_enc0 _ _ (by omega)
  show fRests L f = _
  unfold fRests fOrd
  rw [e1, e2, e3, e4, e5, h7, if_neg (by intro hh; rcases hh with hh | hh | hh; exact hh rfl; exact hh h2; exact h6 hh)]
  rfl
theorem msg_swap {L : List Ord} (tm : List UInt8) (ht : tm.length = 6) (o y : Ord) (h1 : o.ref < 4294967296) (h2 : y.ref < 4294967296) (h4 : y.price < 65536) (h5 : y.shares < 65536) (h6 : y.shares ≠ 0) (h7 : leftL L y.ref = 0) (h8 : liv L o.ref = some (tok0 o)) (h9 : y.side = o.side) (h10 : y.stock = o.stock) :
    Bld (117 :: tm ++ enc o.ref 4 ++ enc y.ref 4 ++ enc y.shares 2 ++ enc y.price 2) L (if y.price = o.price ∧ y.shares ≤ o.shares then chL o.ref (fun _ => tok0 y) L else lessL o.ref o.shares L ++ [tok0 y]) := by
  have e : 117 :: tm ++ enc o.ref 4 ++ enc y.ref 4 ++ enc y.shares 2 ++ enc y.price 2 = 117 :: (tm ++ (enc o.ref 4 ++ (enc y.ref 4 ++ (enc y.shares 2 ++ enc y.price 2)))) := by simp
  rw [e]
  refine Bld.one 117 tm _ ht (by simp [ht, enc_length, tSize]) ?_
  generalize hf : enc o.ref 4 ++ (enc y.ref 4 ++ (enc y.shares 2 ++ enc y.price 2)) = f
  have e1 : at_ f 0 4 = o.ref := by rw [← hf]; exact at_enc _ _ _ (by omega)
  have e2 : at_ f 4 4 = y.ref := by rw [← hf, at_app _ _ 4 0 4 (by rw [enc_length])]; exact at_enc _ _ _ (by omega)
  have e4 : at_ f 8 2 = y.shares := by rw [← hf, at_app _ _ 8 4 2 (by rw [enc_length]), at_app _ _ 4 0 2 (by rw [enc_length])]; exact at_enc _ _ _ (by omega)
  have e5 : at_ f 10 2 = y.price := by rw [← hf, at_app _ _ 10 6 2 (by rw [enc_length]), at_app _ _ 6 2 2 (by rw [enc_length]), at_app _ _ 2 0 2 (by rw [enc_length])]; exact at_enc0 _ _ (by omega)
  have en : fNew (tok0 o) f = tok0 y := by
    unfold fNew tok0
    rw [e2, e4, e5, h9, h10]
  show fSwap L f = _
  unfold fSwap
  rw [e1, h8]
  simp only
  rw [e2, e4, e5, h7, en, if_neg (by intro hh; rcases hh with hh | hh; exact hh.2 rfl; exact h6 hh)]
  have ep : (tok0 o).price = o.price := rfl
  have es : (tok0 o).shares = o.shares := rfl
  rw [ep, es]
  split <;> rfl

theorem tape_meet (k : Nat) : ∀ (st : St) (o : Ord) (L : List Ord) (R : Nat), Inv st → Tq st.q R L →
    ∃ bs L', (st.meet k o).1.tape = st.tape ++ bs ∧ Bld bs L L' ∧ Tq (st.meet k o).1.q R L' := by
  induction k with
  | zero => intro st o L R _ h; exact ⟨[], L, by simp [St.meet], .nil L, h⟩
  | succ k ih =>
    intro st o L R hi h
    by_cases h0 : o.shares = 0
    · have e : st.meet (k + 1) o = (st, o) := by unfold St.meet; rw [if_pos h0]
      rw [e]
      exact ⟨[], L, by simp, .nil L, h⟩
    · cases hm : st.meets o with
      | none =>
        have e : st.meet (k + 1) o = (st, o) := by unfold St.meet; rw [if_neg h0, hm]
        rw [e]
        exact ⟨[], L, by simp, .nil L, h⟩
      | some f =>
        obtain ⟨t, ht, hv, hf1, hf2, hf3, hf4⟩ := meets_at hi hm
        have hfo := hi.ord _ _ _ f (by rw [ht]; simp)
        have e : st.meet (k + 1) o = (st.execute o f (min o.shares f.shares)).meet k { o with shares := o.shares - min o.shares f.shares } := by
          show (if o.shares = 0 then (st, o) else _) = _
          rw [if_neg h0, hm]
        have hn1 : 1 ≤ min o.shares f.shares := by omega
        have hn3 : min o.shares f.shares ≤ f.shares := Nat.min_le_right _ _
        have hn4 := hfo.most
        generalize min o.shares f.shares = n at *
        obtain ⟨t1, t2⟩ := h.less (l1 := []) ht hfo n
        have hq : (st.execute o f n).q = updq st.q f.stock f.side f.price ([] ++ (liveO { f with shares := f.shares - n } ++ t)) := by
          have : (st.execute o f n).q = updq st.q f.stock f.side f.price (redO f.token n (st.q f.stock f.side f.price)) := rfl
          rw [this, ht]
          congr 1
          simp only [redO, if_pos, liveO, List.nil_append]
          by_cases hs : f.shares ≤ n
          · rw [if_pos hs, if_pos (by omega)]; simp
          · rw [if_neg hs, if_neg (by omega)]; simp
        obtain ⟨bs, L', r1, r2, r3⟩ := ih (st.execute o f n) { o with shares := o.shares - n } _ R (execute_ok hi hm n).1 (t2.of_q hq)
        rw [e]
        refine ⟨_, L', ?_, (msg_exec (enc st.time 6) (t6 st) f.ref n ((st.mats + 1) % 4294967296) hfo.ref (by omega) hn1 (by omega)).app r2, r3⟩
        rw [r1, ← List.append_assoc]
        rfl

theorem meet_ref (k : Nat) : ∀ (st : St) (o : Ord), (st.meet k o).2.ref = o.ref ∧ (st.meet k o).1.refs = st.refs := by
  induction k with
  | zero => intro st o; exact ⟨rfl, rfl⟩
  | succ k ih =>
    intro st o
    unfold St.meet
    split
    · exact ⟨rfl, rfl⟩
    · split
      · exact ⟨rfl, rfl⟩
      · rename_i f _
        exact ih (st.execute o f (min o.shares f.shares)) { o with shares := o.shares - min o.shares f.shares }

structure Td (st : St) (L : List Ord) : Prop where
  tq : Tq st.q st.refs L
  cnt : st.refs ≤ st.used.length
def TStep (st st' : St) (L : List Ord) : Prop := ∃ bs L', st'.tape = st.tape ++ bs ∧ Bld bs L L' ∧ Td st' L'

theorem Td.same {st st' : St} {L : List Ord} (h : Td st L) (h1 : st'.tape = st.tape) (h2 : st'.q = st.q) (h3 : st'.refs = st.refs) (h4 : st'.used = st.used) : TStep st st' L :=
  ⟨[], L, by simp [h1], .nil L, ⟨by rw [h2, h3]; exact h.tq, by rw [h3, h4]; exact h.cnt⟩⟩

/-- What is left of an order goes to rest. -/
theorem tape_rest {st : St} {L : List Ord} {R : Nat} (h : Tq st.q R L) (o : Ord) (hr : R < o.ref) (h1 : o.ref < 4294967296) (h2 : o.side = 66 ∨ o.side = 83) (h3 : o.stock < 256) (h4 : o.price < 65536) (h5 : o.shares < 65536) (h6 : o.shares ≠ 0) :
    ∃ bs L', (st.rest o).tape = st.tape ++ bs ∧ Bld bs L L' ∧ Tq (st.rest o).q o.ref L' :=
  ⟨_, _, rfl, msg_rest (enc st.time 6) (t6 st) o h1 h2 h3 h4 h5 h6 (h.fresh hr), h.add hr h6⟩

theorem td_enter {st : St} {L : List Ord} (hi : Inv st) (h : Td st L) (t : Nat) (side : UInt8) (stock price shares : Nat) (kind : UInt8) (hR : st.refs + 1 < 4294967296) : TStep st (st.enter t side stock price shares kind) L := by
  unfold St.enter
  cases hw : st.why t side stock price shares kind with
  | some r => exact h.same rfl rfl rfl rfl
  | none =>
    obtain ⟨w1, w2, w3, w4, w5, w6, w7⟩ := whyE_none hw
    simp only
    have hrr : (st.refs + 1) % 4294967296 = st.refs + 1 := Nat.mod_eq_of_lt hR
    rw [hrr]
    generalize ho : ({ ref := st.refs + 1, token := t, side, stock, price, shares } : Ord) = o
    have o2 : o.side = side := by rw [← ho]
    have o3 : o.stock = stock := by rw [← ho]
    have o4 : o.price = price := by rw [← ho]
    have o5 : o.shares = shares := by rw [← ho]
    have o6 : o.ref = st.refs + 1 := by rw [← ho]
    have hacc : Inv (st.accept o kind) := hi.of_q (st' := st.accept o kind) rfl rfl rfl rfl (fun t ht => List.mem_cons_of_mem _ ht) (by show o.ref < _; omega) hi.mats hi.time
    obtain ⟨bs, L', r1, r2, r3⟩ := tape_meet 65 (st.accept o kind) o L st.refs hacc h.tq
    obtain ⟨v1, v2, v3, v4, v5, v6, v7, v8⟩ := meet_valid 65 (st.accept o kind) o
    obtain ⟨m1, m2⟩ := meet_ref 65 (st.accept o kind) o
    generalize (st.accept o kind).meet 65 o = x at *
    have hc : x.1.refs ≤ x.1.used.length := by
      rw [m2, v3]
      show o.ref ≤ (o.token :: st.used).length
      have := h.cnt
      simp only [List.length_cons]
      omega
    have hx : x.1.refs = o.ref := m2
    have hta : x.1.tape = st.tape ++ bs := r1
    by_cases h0 : x.2.shares = 0
    · rw [if_pos h0]
      exact ⟨bs, L', hta, r2, ⟨r3.le (by omega), hc⟩⟩
    · rw [if_neg h0]
      by_cases hk : kind = 68
      · rw [if_pos hk]
        have hst := hi.stocks
        have hle := hi.levels
        obtain ⟨b2, L2, s1, s2, s3⟩ := tape_rest r3 x.2 (by omega) (by omega) (by rw [v5, o2]; exact w2) (by omega) (by omega) (by omega) h0
        refine ⟨bs ++ b2, L2, by rw [s1, hta, List.append_assoc], r2.app s2, ⟨?_, hc⟩⟩
        show Tq (x.1.rest x.2).q x.1.refs L2
        rw [hx, ← m1]
        exact s3
      · rw [if_neg hk]
        exact ⟨bs, L', hta, r2, ⟨r3.le (by show st.refs ≤ x.1.refs; omega), hc⟩⟩

theorem td_cancel {st : St} {L : List Ord} (hi : Inv st) (h : Td st L) (t n : Nat) : TStep st (st.cancel t n) L := by
  unfold St.cancel
  cases hf : st.find t with
  | none => exact h.same rfl rfl rfl rfl
  | some o =>
    simp only
    by_cases hs : o.shares ≤ n
    · rw [if_pos hs]; exact h.same rfl rfl rfl rfl
    · rw [if_neg hs]
      obtain ⟨f1, f2, f3, f4, f5⟩ := find_at hi hf
      obtain ⟨l1, l2, k1, k2, -, -⟩ := red_at t (o.shares - n) (st.q o.stock o.side o.price) ⟨o, f4, f2⟩ (q_nodup hi f3) o f4 f2
      obtain ⟨t1, t2⟩ := h.tq.less k1 f5 (o.shares - n)
      have hq : updq st.q o.stock o.side o.price (redO t (o.shares - n) (st.q o.stock o.side o.price)) = updq st.q o.stock o.side o.price (l1 ++ (liveO { o with shares := o.shares - (o.shares - n) } ++ l2)) := by rw [k2]
      have hm := f5.most
      by_cases hn0 : n = 0
      · rw [if_pos hn0]
        exact ⟨_, _, rfl, msg_gone (enc st.time 6) (t6 st) o.ref (o.shares - n) f5.ref (by omega) (by omega), ⟨t2.of_q hq, h.cnt⟩⟩
      · rw [if_neg hn0]
        exact ⟨_, _, rfl, msg_less (enc st.time 6) (t6 st) o.ref (o.shares - n) f5.ref (by omega) (by omega) (by omega), ⟨t2.of_q hq, h.cnt⟩⟩

theorem td_replace {st : St} {L : List Ord} (hi : Inv st) (h : Td st L) (t n price shares : Nat) (hR : st.refs + 1 < 4294967296) : TStep st (st.replace t n price shares) L := by
  unfold St.replace
  cases hf : st.find t with
  | none => exact h.same rfl rfl rfl rfl
  | some o =>
    simp only
    cases hw : st.whyR n price shares with
    | some r => exact h.same rfl rfl rfl rfl
    | none =>
      obtain ⟨w1, w4, w5, w6, w7⟩ := whyE_noneR hw
      simp only
      obtain ⟨f1, f2, f3, f4, f5⟩ := find_at hi hf
      obtain ⟨l1, l2, k1, -, k3, k4⟩ := red_at t 0 (st.q o.stock o.side o.price) ⟨o, f4, f2⟩ (q_nodup hi f3) o f4 f2
      have hrr : (st.refs + 1) % 4294967296 = st.refs + 1 := Nat.mod_eq_of_lt hR
      rw [hrr]
      obtain ⟨R, hRe⟩ : ∃ R, st.refs + 1 = R := ⟨_, rfl⟩
      rw [hRe]
      generalize hy : ({ o with ref := R, token := n, price, shares } : Ord) = y
      have y0 : y.ref = R := by rw [← hy]
      have y2 : y.side = o.side := by rw [← hy]
      have y3 : y.stock = o.stock := by rw [← hy]
      have y4 : y.price = price := by rw [← hy]
      have y5 : y.shares = shares := by rw [← hy]
      have hle := hi.levels
      have hsk := hi.stocks
      generalize hst1 : (({ st with refs := R, used := n :: st.used } : St).say (st.head 85 ++ enc n 4 ++ enc price 2 ++ enc shares 2 ++ enc R 4 ++ enc t 4)) = st1
      have a1 : st1.tape = st.tape := by rw [← hst1]; rfl
      have a2 : st1.q = st.q := by rw [← hst1]; rfl
      have a3 : st1.stocks = st.stocks := by rw [← hst1]; rfl
      have a4 : st1.levels = st.levels := by rw [← hst1]; rfl
      have a5 : st1.used = n :: st.used := by rw [← hst1]; rfl
      have a7 : st1.refs = R := by rw [← hst1]; rfl
      have a8 : st1.time = st.time := by rw [← hst1]; rfl
      have a6 : Inv st1 := by rw [← hst1]; exact (hi.of_q (st' := { st with refs := R, used := n :: st.used }) rfl rfl rfl rfl (fun t ht => List.mem_cons_of_mem _ ht) (by show R < _; omega) hi.mats hi.time).say _
      clear hst1
      have hc : st1.refs ≤ st1.used.length := by
        have := h.cnt
        rw [a7, a5, List.length_cons]
        omega
      obtain ⟨t1, t2⟩ := h.tq.less k1 f5 o.shares
      have hz : liveO ({ o with shares := o.shares - o.shares } : Ord) = [] := by unfold liveO; rw [if_pos (Nat.sub_self _)]
      rw [hz, List.nil_append] at t2
      have hlv := (h.tq.turn (y := o) k1 rfl rfl rfl (.inr (.inl rfl)) id rfl).1
      cases hm : st1.meets y with
      | none =>
        have hms := msg_swap (L := L) (enc st1.time 6) (t6 st1) o y f5.ref (by omega) (by omega) (by omega) (by omega) (h.tq.fresh (by omega)) hlv y2 y3
        rw [y0, y4, y5] at hms
        by_cases hc2 : price = o.price ∧ shares ≤ o.shares
        · simp only [if_pos hc2]
          rw [if_pos hc2] at hms
          refine ⟨_, _, ?_, hms, ⟨?_, hc⟩⟩
          · show st1.tape ++ _ = _
            rw [a1]
            rfl
          · have := (h.tq.turn (y := y) k1 y3 y2 (by rw [y4]; exact hc2.1) (.inr (.inr (by omega))) (fun _ => tok0 y) rfl).2
            have hl : liveO y = [y] := by unfold liveO; rw [if_neg (by omega)]
            rw [hl] at this
            refine (this.le (R' := st1.refs) (by rw [a7, y0]; omega)).of_q ?_
            show updq st1.q o.stock o.side o.price (subO t y (st1.q o.stock o.side o.price)) = _
            rw [a2, k4]
            rfl
        · simp only [if_neg hc2]
          rw [if_neg hc2] at hms
          refine ⟨_, _, ?_, hms, ⟨?_, hc⟩⟩
          · show st1.tape ++ _ = _
            rw [a1]
            rfl
          · have := t2.add (o := y) (by omega) (by omega)
            refine (this.le (R' := st1.refs) (by omega)).of_q ?_
            show updq (updq st1.q o.stock o.side o.price (delO t (st1.q o.stock o.side o.price))) o.stock o.side price ((updq st1.q o.stock o.side o.price (delO t (st1.q o.stock o.side o.price))) o.stock o.side price ++ [y]) = _
            rw [a2, k3, y3, y2, y4]
      | some f =>
        generalize hst2 : (st1.put (st1.head 100 ++ enc o.ref 4)).upd o.stock o.side o.price (delO t) = st2
        have b1 : st2.tape = st.tape ++ (st1.head 100 ++ enc o.ref 4) := by rw [← hst2, ← a1]; rfl
        have b5 : st2.used = n :: st.used := by rw [← hst2]; exact a5
        have b3 : st2.stocks = st.stocks := by rw [← hst2]; exact a3
        have b4 : st2.levels = st.levels := by rw [← hst2]; exact a4
        have b7 : st2.refs = R := by rw [← hst2]; exact a7
        have b8 : st2.q = updq st.q o.stock o.side o.price (l1 ++ l2) := by
          rw [← hst2, upd_updq]
          show updq st1.q o.stock o.side o.price (delO t (st1.q o.stock o.side o.price)) = _
          rw [a2, k3]
        have b6 : Inv st2 := by rw [← hst2]; exact (a6.put _).del _ _ _ _ (by unfold Valid; exact ⟨by show _ < st1.stocks; rw [a3]; exact f3.1, f3.2.1, f3.2.2.1, by show _ ≤ st1.levels; rw [a4]; exact f3.2.2.2⟩)
        clear hst2
        have hg := msg_gone (L := L) (enc st1.time 6) (t6 st1) o.ref o.shares f5.ref f5.least t1
        obtain ⟨bs, L', r1, r2, r3⟩ := tape_meet 65 st2 y _ st.refs b6 (t2.of_q b8)
        obtain ⟨v1, v2, v3, v4, v5, v6, v7, v8⟩ := meet_valid 65 st2 y
        obtain ⟨m1, m2⟩ := meet_ref 65 st2 y
        generalize st2.meet 65 y = x at *
        have hc3 : x.1.refs ≤ x.1.used.length := by rw [m2, v3, b7, b5, ← a5, ← a7]; exact hc
        have hta : x.1.tape = st.tape ++ ((st1.head 100 ++ enc o.ref 4) ++ bs) := by rw [r1, b1, List.append_assoc]
        by_cases h0 : x.2.shares = 0
        · rw [if_pos h0]
          exact ⟨_, L', hta, hg.app r2, ⟨r3.le (by show st.refs ≤ x.1.refs; omega), hc3⟩⟩
        · rw [if_neg h0]
          have hv := f3.2.1
          obtain ⟨bb, L2, s1, s2, s3⟩ := tape_rest r3 x.2 (by omega) (by omega) (by rw [v5, y2]; exact hv) (by have := f3.1; omega) (by omega) (by omega) h0
          refine ⟨_, L2, by rw [s1, hta, List.append_assoc]; rfl, (hg.app r2).app s2, ⟨?_, hc3⟩⟩
          show Tq (x.1.rest x.2).q x.1.refs L2
          rw [m2, b7, ← y0, ← m1]
          exact s3

theorem td_does {st : St} {L : List Ord} (hi : Inv st) (h : Td st L) (a : Act) (hR : st.refs + 1 < 4294967296) : TStep st (st.does a) L := by
  unfold St.does
  split
  · exact td_enter hi h _ _ _ _ _ _ hR
  · split
    · exact td_cancel hi h _ _
    · exact td_replace hi h _ _ _ _ hR

theorem td_acts {p : Nat} (acts : List Act) : ∀ {n : Nat} {x : Run} {L : List Ord}, Good p n x → Bld x.tape [] L → Td x.st L → ∃ L', Bld (x.acts acts).tape [] L' ∧ Td (x.acts acts).st L' := by
  induction acts with
  | nil => intro n x L _ h1 h2; exact ⟨L, h1, h2⟩
  | cons a acts ih =>
    intro n x L hg h1 h2
    have key : ∃ l1, Bld (x.act a).tape [] l1 ∧ Td (x.act a).st l1 := by
      unfold Run.act
      split
      · exact ⟨L, h1, ⟨h2.tq, h2.cnt⟩⟩
      · rw [feed_message x.st a hg.opn hg.part]
        have h42 := tok_len _ hg.nodup hg.tok
        obtain ⟨bs, l', r1, r2, r3⟩ := td_does hg.inv h2 a (by have := h2.cnt; omega)
        rw [hg.tape, List.nil_append] at r1
        refine ⟨l', ?_, ⟨r3.tq, r3.cnt⟩⟩
        show Bld (x.tape ++ (x.st.does a).tape) [] l'
        rw [r1]
        exact h1.app r2
    obtain ⟨l1, k1, k2⟩ := key
    exact ih (hg.act a) k1 k2

theorem open_refs_all : (List.range 64).all (fun p => (openSt (1 + p)).refs == 2) = true := by decide +kernel
theorem open_refs (p : Nat) (h1 : 1 ≤ p) (h2 : p ≤ 64) : (openSt p).refs = 2 := by
  have h := List.all_eq_true.1 open_refs_all (p - 1) (by simp; omega)
  rw [show 1 + (p - 1) = p by omega] at h
  simpa using h

theorem td_started (pool : Int) : Td (started pool).st [] := by
  have hp := pick_lt pool 64 (by decide)
  have ha : (started pool).st.all = [] := resting_open (1 + pick pool 64) (by omega) (by omega)
  have hi := (good_started pool).inv
  refine ⟨⟨fun s d p => ?_, List.nodup_nil, fun o ho => by cases ho⟩, ?_⟩
  · have : (started pool).st.q s d p = [] := by
      cases hq : (started pool).st.q s d p with
      | nil => rfl
      | cons x l =>
        have hv := hi.ok s d p (by rw [hq]; simp)
        obtain ⟨A, B, e1, -⟩ := all_upd _ s d p hv
        rw [ha, hq] at e1
        simp at e1
    rw [this]
    rfl
  · show (openSt (1 + pick pool 64)).refs ≤ (openSt (1 + pick pool 64)).used.length
    rw [open_refs _ (by omega) (by omega), (open_used _ (by omega) (by omega)).1]
    decide

end Go.Proofs.YtphkchjejbffeaaGreat

/- The books that are built, sorted, are the books that there are: plain. -/
namespace Go.Proofs.YtphkchjejbffeaaGreat
open Go.Shelf Go.RowKit Go.Lib Go.Sort

theorem eqv_byB (c x : Ord) : eqv (ltc byB) c x = true ↔ x.stock = c.stock ∧ x.side = c.side ∧ x.price = c.price := by
  have e : ∀ x y, ltc byB x y = false ↔ ¬ ltc byB x y = true := fun x y => by cases ltc byB x y <;> simp
  have hs : x.side = c.side ↔ x.side.toNat = c.side.toNat := ⟨fun h => by rw [h], fun h => UInt8.toNat_inj.1 h⟩
  unfold eqv
  rw [Bool.and_eq_true, Bool.not_eq_true', Bool.not_eq_true', e, e, byB_lt, byB_lt, hs]
  omega

theorem map_all (st : St) : st.all.map tok0 = (allCo st.stocks st.levels).flatMap fun c => (st.get c).map tok0 := by
  rw [all_eq, List.map_flatMap]

theorem cls_all {st : St} (hi : Inv st) {L : List Ord} {R : Nat} (h : Tq st.q R L) : Cls (ltc byB) (L.filter alive) (st.all.map tok0) := by
  intro c
  have e1 : (L.filter alive).filter (eqv (ltc byB) c) = L.filter (inK c.stock c.side c.price) := by
    rw [List.filter_filter]
    congr 1
    funext x
    have := eqv_byB c x
    cases hx : eqv (ltc byB) c x with
    | true =>
      have h2 := this.1 hx
      unfold inK alive
      simp [h2.1, h2.2.1, h2.2.2]
    | false =>
      cases hk : inK c.stock c.side c.price x with
      | false => simp
      | true =>
        have h2 := (inK_iff _ _ _ _).1 hk
        rw [this.2 h2.2] at hx
        cases hx
  rw [e1, h.cls, map_all]
  have hz : ∀ co : Co, co ≠ (c.stock, c.side, c.price) → ((st.get co).map tok0).filter (eqv (ltc byB) c) = [] := by
    intro co hne
    rw [List.filter_eq_nil_iff]
    intro x hx he
    obtain ⟨y, hy, rfl⟩ := List.mem_map.1 hx
    have hf := hi.ord _ _ _ y hy
    have h2 := (eqv_byB c (tok0 y)).1 he
    refine hne ?_
    obtain ⟨a, b, d⟩ := co
    have q1 : y.stock = c.stock := h2.1
    have q2 : y.side = c.side := h2.2.1
    have q3 : y.price = c.price := h2.2.2
    rw [← q1, ← q2, ← q3]
    exact Prod.ext hf.stock.symm (Prod.ext hf.side.symm hf.price.symm)
  have hsame : ((st.q c.stock c.side c.price).map tok0).filter (eqv (ltc byB) c) = (st.q c.stock c.side c.price).map tok0 := by
    rw [List.filter_eq_self]
    intro x hx
    obtain ⟨y, hy, rfl⟩ := List.mem_map.1 hx
    have hf := hi.ord _ _ _ y hy
    exact (eqv_byB c (tok0 y)).2 ⟨hf.stock, hf.side, hf.price⟩
  have hfl : ∀ l : List Co, (c.stock, c.side, c.price) ∉ l → (l.flatMap fun c => (st.get c).map tok0).filter (eqv (ltc byB) c) = [] := by
    intro l
    induction l with
    | nil => intro _; rfl
    | cons x l ih =>
      intro hn
      rw [List.flatMap_cons, List.filter_append, hz x (fun e => hn (by rw [e]; simp)), ih (fun e => hn (by simp [e]))]
      rfl
  by_cases hm : (c.stock, c.side, c.price) ∈ allCo st.stocks st.levels
  · obtain ⟨l1, l2, e, n1, n2⟩ := split_mem _ _ (nodup_allCo _ _) hm
    rw [e, List.flatMap_append, List.flatMap_cons, List.filter_append, List.filter_append, hfl l1 n1, hfl l2 n2]
    show _ = [] ++ (((st.q c.stock c.side c.price).map tok0).filter (eqv (ltc byB) c) ++ [])
    rw [hsame]
    simp
  · rw [hfl _ hm]
    cases hq : st.q c.stock c.side c.price with
    | nil => rfl
    | cons x l =>
      have hv := hi.ok c.stock c.side c.price (by rw [hq]; simp)
      exact absurd ((mem_allCo st.stocks st.levels (c.stock, c.side, c.price)).2 hv) hm

/-- No place stands ahead of one that is better. -/
def coLe (a b : Co) : Prop := a.1 < b.1 ∨ (a.1 = b.1 ∧ (a.2.1.toNat < b.2.1.toNat ∨ (a.2.1.toNat = b.2.1.toNat ∧ ((a.2.1.toNat = 66 ∧ b.2.2 ≤ a.2.2) ∨ (a.2.1.toNat ≠ 66 ∧ a.2.2 ≤ b.2.2)))))

theorem range_pw (n : Nat) {β : Type} (f : Nat → β) (P : β → β → Prop) (h : ∀ i j, i < j → j < n → P (f i) (f j)) : ((List.range n).map f).Pairwise P := by
  rw [List.pairwise_map, List.pairwise_iff_getElem]
  intro i j hi hj hij
  simp at hi hj
  simp
  exact h i j hij hj
theorem co_book (n s : Nat) : (bookCo n s).Pairwise coLe := by
  unfold bookCo
  rw [List.pairwise_append]
  refine ⟨range_pw n _ _ fun i j h1 h2 => ?_, range_pw n _ _ fun i j h1 h2 => ?_, ?_⟩
  · exact .inr ⟨rfl, .inr ⟨rfl, .inl ⟨rfl, by show n - j ≤ n - i; omega⟩⟩⟩
  · exact .inr ⟨rfl, .inr ⟨rfl, .inr ⟨by show (83 : UInt8).toNat ≠ 66; decide, by show i + 1 ≤ j + 1; omega⟩⟩⟩
  · intro a ha b hb
    simp only [bidCo, askCo, List.mem_map] at ha hb
    obtain ⟨r, _, rfl⟩ := ha
    obtain ⟨t, _, rfl⟩ := hb
    exact .inr ⟨rfl, .inl (by show (66 : UInt8).toNat < (83 : UInt8).toNat; decide)⟩
theorem co_all (m n : Nat) : (allCo m n).Pairwise coLe := by
  induction m with
  | zero => simp [allCo]
  | succ m ih =>
    have : allCo (m + 1) n = allCo m n ++ bookCo n m := by simp [allCo, List.range_succ]
    rw [this, List.pairwise_append]
    refine ⟨ih, co_book n m, ?_⟩
    intro a ha b hb
    have h1 := (mem_allCo m n a).1 ha
    have h2 := (mem_bookCo n m b).1 hb
    exact .inl (by omega)

theorem srt_all {st : St} (hi : Inv st) : Srt (ltc byB) (st.all.map tok0) := by
  rw [map_all]
  unfold Srt
  have e : ∀ x y, ltc byB x y = false ↔ ¬ ltc byB x y = true := fun x y => by cases ltc byB x y <;> simp
  rw [List.pairwise_flatMap]
  refine ⟨?_, (co_all _ _).imp ?_⟩
  · intro c hc
    rw [List.pairwise_map]
    refine List.pairwise_iff_forall_sublist.2 ?_
    intro a b hab
    have ha : a ∈ st.get c := hab.subset (by simp)
    have hb : b ∈ st.get c := hab.subset (by simp)
    have fa := hi.ord _ _ _ a ha
    have fb := hi.ord _ _ _ b hb
    rw [e, byB_lt]
    have q1 : (tok0 a).stock = (tok0 b).stock := fa.stock.trans fb.stock.symm
    have q2 : (tok0 a).side = (tok0 b).side := fa.side.trans fb.side.symm
    have q3 : (tok0 a).price = (tok0 b).price := fa.price.trans fb.price.symm
    rw [q1, q2, q3]
    omega
  · intro c c' hcc x hx y hy
    obtain ⟨a, ha, rfl⟩ := List.mem_map.1 hx
    obtain ⟨b, hb, rfl⟩ := List.mem_map.1 hy
    have fa := hi.ord _ _ _ a ha
    have fb := hi.ord _ _ _ b hb
    have q1 : (tok0 a).stock = c.1 := fa.stock
    have q2 : (tok0 a).side = c.2.1 := fa.side
    have q3 : (tok0 a).price = c.2.2 := fa.price
    have r1 : (tok0 b).stock = c'.1 := fb.stock
    have r2 : (tok0 b).side = c'.2.1 := fb.side
    have r3 : (tok0 b).price = c'.2.2 := fb.price
    rw [e, byB_lt, q1, q2, q3, r1, r2, r3]
    unfold coLe at hcc
    omega

/-- The list that is built out of the tape, sorted as Build does it, is what rests. -/
theorem built_all {st : St} (hi : Inv st) {L C : List Ord} {R : Nat} (h : Tq st.q R L) (hs : Srt (ltc byB) C) (hc : Cls (ltc byB) (L.filter alive) C) : C = st.all.map tok0 :=
  cls_unique byB_swo _ _ hs (srt_all hi) (hc.symm.trans (cls_all hi h))

end Go.Proofs.YtphkchjejbffeaaGreat

/- The house's rests, out of what the calls do. -/
namespace Go.Proofs.YtphkchjejbffeaaGreat
open Go.RowKit

theorem all3 (st : St) (h : st.stocks = 3) : st.all = st.book 0 ++ (st.book 1 ++ st.book 2) := by
  unfold St.all
  rw [h]
  simp [List.range_succ]

theorem Good.book {p n : Nat} {x : Run} (h : Good p n x) (s : Nat) (hs : s < 3) : BookOk s (x.st.book s) ∧ (x.st.book s).length ≤ 1000 := by
  refine ⟨⟨?_, ?_⟩, ?_⟩
  · intro i y hy
    have := book_each h.inv s y (List.mem_of_getElem? hy)
    rw [h.levels] at this
    exact this
  · intro i f q y hf hq hy
    exact book_pair h.inv s i f q y hf hq hy
  · have h1 := h.inv.room
    have h2 := h.inv.pool
    unfold St.resting at h1
    rw [all3 _ h.stocks] at h1
    simp only [List.length_append] at h1
    have : s = 0 ∨ s = 1 ∨ s = 2 := by omega
    rcases this with rfl | rfl | rfl <;> omega

theorem rests_good {At : World → Nat → (Nat → Prop) → St → Prop} (api : Api At) {hb b : Nat} {G : Nat → Prop} {vo vt : Value} {x : Run} {p n : Nat} (w : World)
    (hh : HouseOf At w hb b G vo vt x) (hg : Good p n x) :
    Calls Tryz.prog 9 #[.pointer (some ⟨hb, 0, none⟩)] w fun e w' => ∃ v, e = .returned (.tuple #[v, .bool true]) ∧
      w'.ownsRow w.heap.size 40 6 v x.st.resting (x.st.all.flatMap Ord.cells) ∧ Below w.heap.size w w' :=
  rests_any api hb b G vo vt x.st w hh.cell hh.at_ hg.stocks (fun s hs => (hg.book s hs).1) (fun s hs => (hg.book s hs).2)

theorem House.below {At : World → Nat → (Nat → Prop) → St → Prop} (api : Api At) {w w' : World} {hb b : Nat} {G : Nat → Prop} {vo vt : Value} {x : Run}
    (h : HouseOf At w hb b G vo vt x) (hB : Below w.heap.size w w') : HouseOf At w' hb b G vo vt x :=
  House.step h (api.below h.at_ hB) (Fr.of_below hB G) (fun _k hk => .inl hk)

end Go.Proofs.YtphkchjejbffeaaGreat

/- The law Taped, out of what the calls do. -/
namespace Go.Proofs.YtphkchjejbffeaaGreat
open Go.RowKit
attribute [local go_sem ↓] Go.wp_at_zero Go.wp_at_succ

/-- The orders that rest, and those that Build answers. -/
theorem built_rows {pool : Int} {l : List Act} {w w' : World} {e : Ending} (_hl : l.length ≤ 2600000000000) (h : BuiltP w ((started pool).acts l).tape e w') :
    Below w.heap.size w w' ∧ ∃ v, e = .returned (.tuple #[v, .int .i64 0, .int .i64 0]) ∧ w'.ownsRow 0 40 6 v ((started pool).acts l).st.all.length ((((started pool).acts l).st.all.map tok0).flatMap Ord.cells) := by
  have gd := Good.acts l (good_started pool)
  obtain ⟨L, hb, ht⟩ := td_acts l (good_started pool) (.nil []) (td_started pool)
  obtain ⟨hB, ⟨L2, v, C, h1, rfl, h3, h4, h5⟩ | ⟨h1, -⟩⟩ := h
  · rw [hb.built] at h1
    cases h1
    have hC := built_all gd.inv ht.tq h3 h4
    subst hC
    rw [List.length_map] at h5
    exact ⟨hB, v, rfl, ownsRow_base h5 (Nat.zero_le _)⟩
  · rw [hb.built] at h1
    cases h1

set_option maxRecDepth 100000 in
set_option maxHeartbeats 4000000 in
theorem taped_any {At : World → Nat → (Nat → Prop) → St → Prop} (api : Api At) (pool : Int) (v : Value) (l : List Act) (w : World) (h1 : -9223372036854775808 ≤ pool) (h2 : pool ≤ 9223372036854775807)
    (hl : ActsAt w v l) (hn : l.length ≤ 2600000000000) :
    Calls Tryz.prog 4 #[.int .i64 pool, v] w fun e w' => e = .returned (.bool true) ∧ Below w.heap.size w w' := by
  have gd := Good.acts l (good_started pool)
  rw [Nat.zero_add] at gd
  have hls := gd.lens
  have hbig : big = 70368744177664 := rfl
  have HA := Hid.mk (acts_any api pool v l w h1 h2 hl (by rw [hbig]; omega) (by rw [hbig]; omega))
  have HG := Hid.mk gd
  have HTL : Hid (((started pool).acts l).tape.length ≤ 40000000000000) := by
    show _ ≤ _
    omega
  have HBR : Hid (∀ (w w' : World) (e : Ending), BuiltP w ((started pool).acts l).tape e w' → Below w.heap.size w w' ∧ ∃ v, e = .returned (.tuple #[v, .int .i64 0, .int .i64 0]) ∧ w'.ownsRow 0 40 6 v ((started pool).acts l).st.all.length ((((started pool).acts l).st.all.map tok0).flatMap Ord.cells)) := fun w w' e h => built_rows hn h
  clear hl hn hls hbig gd
  generalize hX : (started pool).acts l = x at *
  clear hX
  go_enter Tryz.func4, Tryz.ntmps4
  go_wp2_with fail
  refine HA.out.mono ?_
  rintro e w1 ⟨hb, b, G, vo, vt, rfl, hh, hF, hB⟩
  have HN := Hid.mk (And.intro hh (And.intro hF hB))
  clear hh hF hB
  go_wp2_with fail
  refine (rests_good api w1 HN.out.1 HG.out).mono ?_
  rintro e w2 ⟨vw, rfl, how, hb2⟩
  obtain ⟨rw_, cw, rfl, -, -⟩ := ownsRow_len how
  have hh2 := House.below api HN.out.1 hb2
  obtain ⟨-, -, d2, -⟩ := cells3 hh2.cell
  have HW := Hid.mk (And.intro how hb2)
  have HH2 := Hid.mk hh2
  clear how hb2 hh2
  rw [show x.st.resting = x.st.all.length from rfl]
  go_wp2_with fail
  refine (build_any w2 vt x.tape (HH2.out.tape.rd (fun _ _ h => h)) HTL.out).mono ?_
  intro e w3 hbp
  obtain ⟨hb3, vm, rfl, hm⟩ := HBR.out w2 w3 e hbp
  obtain ⟨rm, cm, rfl, -, -⟩ := ownsRow_len hm
  have hL64 : x.st.all.length ≤ 64 := by
    have q1 := HG.out.inv.room
    have q2 := HG.out.inv.pool
    unfold St.resting at q1
    omega
  have hrow : w3.ownsRow 0 40 6 (.slice rw_ x.st.all.length cw) x.st.all.length (x.st.all.flatMap Ord.cells) := by
    obtain ⟨how, hb2⟩ := HW.out
    exact ownsRow_base (ownsRow_keep how (fun g hg => hb3.block g (how.lt g hg).2)) (Nat.zero_le _)
  have HR : Hid (w3.ownsRow 0 40 6 (.slice rw_ x.st.all.length cw) x.st.all.length (x.st.all.flatMap Ord.cells) ∧ w3.ownsRow 0 40 6 (.slice rm x.st.all.length cm) (x.st.all.map tok0).length ((x.st.all.map tok0).flatMap Ord.cells)) := ⟨hrow, by rw [List.length_map]; exact hm⟩
  have HB3 : Hid (Below w.heap.size w w3) := (HN.out.2.2.trans (HW.out.2.mono HN.out.2.2.size)).trans (hb3.mono (Nat.le_trans HN.out.2.2.size HW.out.2.size))
  clear hbp hb3 hm hrow HW HH2 HN HA HBR HTL d2
  generalize x.st.all = L at *
  go_wp2_with fail
  go_loopw [12] (fun i w9 => ∃ k : Nat, k ≤ L.length ∧ i = .int .i64 k ∧ Below w3.heap.size w3 w9) (fun i _ => L.length - (intOf i).toNat)
  case atStart => exact ⟨0, Nat.zero_le _, rfl, Below.refl _ _⟩
  case round =>
    obtain ⟨k, hk, rfl, hB9⟩ := hrel
    by_cases hkl : k < L.length
    · obtain ⟨hw1, hw2⟩ := HR.out
      obtain ⟨g1, rfl, hg1, hc1⟩ := row_orders hw1 (by omega)
      have hw2' : w3.ownsRow 0 40 6 (.slice rm (L.map tok0).length cm) (L.map tok0).length ((L.map tok0).flatMap Ord.cells) := by
        have := hw2
        rw [List.length_map] at this ⊢
        exact this
      obtain ⟨g2, rfl, hg2, hc2⟩ := row_orders hw2' (by rw [List.length_map]; omega)
      obtain ⟨y, hy⟩ : ∃ y, L[k]? = some y := ⟨_, List.getElem?_eq_getElem hkl⟩
      obtain ⟨b0, b1, b2, b3, b4, b5⟩ := ord_cells y hB9 hg1 (hc1 k y hy)
      obtain ⟨e0, e1, e2, e3, e4, e5⟩ := ord_cells (tok0 y) hB9 hg2 (hc2 k (tok0 y) (by rw [List.getElem?_map, hy]; rfl))
      obtain ⟨ref, token, side, stock, price, shares⟩ := y
      simp only [tok0] at b0 b1 b2 b3 b4 b5 e0 e1 e2 e3 e4 e5
      have i3 : (0 : Int) ≤ (k : Int) := by omega
      have i4 : (k : Int) < (L.length : Int) := by omega
      have HB9 := Hid.mk hB9
      clear hw1 hw2 hw2' hc1 hc2 hy hB9
      go_wp2_with fail
      generalize hO : Obj.cells _ 40 = O
      have hB10 : Below w3.heap.size w3 (wr.alloc O) := HB9.out.alloc HB9.out.size O
      have k0 : (wr.alloc O).cell? ⟨wr.heap.size, 0, none⟩ = some (.int .i64 ref) := by rw [← hO]; exact new_cell _ _ _ 0 _ rfl
      have k1 : (wr.alloc O).cell? ⟨wr.heap.size, 1, none⟩ = some (.int .i64 0) := by rw [← hO]; exact new_cell _ _ _ 1 _ rfl
      have k2 : (wr.alloc O).cell? ⟨wr.heap.size, 2, none⟩ = some (.int .u8 side.toNat) := by rw [← hO]; exact new_cell _ _ _ 2 _ rfl
      have k3 : (wr.alloc O).cell? ⟨wr.heap.size, 3, none⟩ = some (.int .i64 stock) := by rw [← hO]; exact new_cell _ _ _ 3 _ rfl
      have k4 : (wr.alloc O).cell? ⟨wr.heap.size, 4, none⟩ = some (.int .i64 price) := by rw [← hO]; exact new_cell _ _ _ 4 _ rfl
      have k5 : (wr.alloc O).cell? ⟨wr.heap.size, 5, none⟩ = some (.int .i64 shares) := by rw [← hO]; exact new_cell _ _ _ 5 _ rfl
      have al : ∀ j u, wr.cell? ⟨g2, j, none⟩ = some u → (wr.alloc O).cell? ⟨g2, j, none⟩ = some u := fun j u hu => by rw [World.cell?_alloc_some _ _ _ (by rw [hu]; rfl)]; exact hu
      replace e0 := al _ _ e0
      replace e1 := al _ _ e1
      replace e2 := al _ _ e2
      replace e3 := al _ _ e3
      replace e4 := al _ _ e4
      replace e5 := al _ _ e5
      have HB10 := Hid.mk hB10
      clear hO b0 b1 b2 b3 b4 b5 hB10 HB9 al
      generalize wr.alloc O = W9 at *
      go_quiet (fail)
      go_wp2_with fail
      exact ⟨⟨k + 1, by omega, by go_num, below_drewN HB10.out _⟩, by simp [intOf]; omega⟩
    · have HB9 := Hid.mk hB9
      clear hB9
      go_wp2_with fail
      go_ret
      exact ⟨rfl, HB3.out.trans (HB9.out.mono HB3.out.size)⟩

end Go.Proofs.YtphkchjejbffeaaGreat
