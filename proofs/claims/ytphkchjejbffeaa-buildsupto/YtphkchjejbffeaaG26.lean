/- The walk of Build. -/
import Derived.Test.YtphkchjejbffeaaG25
import Derived.Laws.IdiomStrings
import Derived.Laws.BytesArg
import Derived.Lib.BufferWrite
namespace Go.Proofs.Ytphkchjejbffeaa
open Go.RowKit
attribute [local go_sem ↓] Go.wp_at_zero Go.wp_at_succ

theorem ch_len (t : Nat) (f : Ord → Ord) (L : List Ord) : (chL t f L).length = L.length := by unfold chL; rw [List.length_map]
theorem fol_len {L L' : List Ord} {c : UInt8} {f : List UInt8} (h : fol L c f = some L') : L'.length = L.length ∨ (L'.length = L.length + 1 ∧ 17 ≤ tSize c) := by
  unfold fol at h
  split at h
  · rename_i hc
    unfold fRests at h
    split at h
    · cases h
    · cases h
      right
      exact ⟨by simp, by rw [hc]; decide⟩
  · split at h
    · unfold fExec at h
      split at h
      · cases h
      · cases h
        exact .inl (ch_len _ _ _)
    · split at h
      · unfold fLess at h
        split at h
        · cases h
        · cases h
          exact .inl (ch_len _ _ _)
      · split at h
        · unfold fGone at h
          split at h
          · cases h
          · cases h
            exact .inl (ch_len _ _ _)
        · split at h
          · rename_i hc
            unfold fSwap at h
            split at h
            · cases h
            · split at h
              · cases h
              · split at h
                · cases h
                  exact .inl (ch_len _ _ _)
                · cases h
                  right
                  refine ⟨?_, by rw [hc]; decide⟩
                  rw [List.length_append]
                  show (chL _ _ L).length + 1 = _
                  rw [ch_len]
          · cases h

/-- What Build answers. -/
def BuiltP (w : World) (tape : List UInt8) (e : Ending) (w' : World) : Prop :=
  Below w.heap.size w w' ∧
  ((∃ L v C, (built tape).1 = some L ∧ e = .returned (.tuple #[v, .int .i64 0, .int .i64 0]) ∧ Srt (ltc byB) C ∧ Cls (ltc byB) (L.filter alive) C ∧ w'.ownsRow w.heap.size 46 6 v C.length (C.flatMap Ord.cells)) ∨
   ((built tape).1 = none ∧ e = .returned (.tuple #[.slice none 0 0, .int .i64 ((tape.length : Int) - ((built tape).2.length : Int)), .int .i64 2])))

theorem tb_nil (k : Nat) (L : List Ord) : tb k L [] = (some L, []) := by
  cases k with
  | zero => rfl
  | succ k => rfl
theorem tb_bad {k : Nat} {L : List Ord} {b : List UInt8} (hk : b.length ≤ k) (hb : b ≠ []) (h : tSize (byteAt b 0) = 0 ∨ b.length < tSize (byteAt b 0)) : tb k L b = (none, b) := by
  cases k with
  | zero => exact absurd (List.length_eq_zero_iff.1 (by omega)) hb
  | succ k =>
    show (if _ then _ else _) = _
    rw [if_neg hb, if_pos h]
theorem tb_fol {k : Nat} {L : List Ord} {b : List UInt8} (hk : b.length ≤ k) (hb : b ≠ []) (h : ¬ (tSize (byteAt b 0) = 0 ∨ b.length < tSize (byteAt b 0))) :
    (fol L (byteAt b 0) ((b.take (tSize (byteAt b 0))).drop 7) = none → tb k L b = (none, b)) ∧
    (∀ L', fol L (byteAt b 0) ((b.take (tSize (byteAt b 0))).drop 7) = some L' → ∃ k', (b.drop (tSize (byteAt b 0))).length ≤ k' ∧ tb k L b = tb k' L' (b.drop (tSize (byteAt b 0)))) := by
  cases k with
  | zero => exact absurd (List.length_eq_zero_iff.1 (by omega)) hb
  | succ k =>
    have e : tb (k + 1) L b = match fol L (byteAt b 0) ((b.take (tSize (byteAt b 0))).drop 7) with
      | none => (none, b)
      | some L' => tb k L' (b.drop (tSize (byteAt b 0))) := by
      show (if _ then _ else _) = _
      rw [if_neg hb, if_neg h]
      rfl
    refine ⟨fun h1 => by rw [e, h1], fun L' h1 => ⟨k, ?_, by rw [e, h1]⟩⟩
    rw [List.length_drop]
    omega

theorem rb_new (w : World) : RbAt ((w.alloc (.map #[] 0)).alloc (.cells #[.slice none 0 0, .map (some w.heap.size)] 94)) w.heap.size (w.heap.size + 1) [] := by
  refine ⟨.slice none 0 0, w.heap.size, 0, fun _ => none, RbC.mk' ?_ (World.ownsRow_nil _ _ _ _) ?_ (by omega) (Nat.le_refl _), Ix.nil, Nat.le_refl _, fun o ho => by cases ho⟩
  · rw [heap_alloc, if_pos (by rw [size_alloc])]
  · exact (IsM.new w).keep (by rw [heap_alloc, if_neg (by rw [size_alloc]; omega)])

set_option maxRecDepth 100000 in
set_option maxHeartbeats 4000000 in
theorem build_any (w : World) (v : Value) (tape : List UInt8) (hv : Rd w (fun _ => False) v tape) (hlen : tape.length ≤ 40000000000000) :
    Calls Try.prog 24 #[v] w (BuiltP w tape) := by
  obtain ⟨ra, n0, cap, rfl, hn0, hcap, HL⟩ : ∃ ra n0 cap, v = .slice ra n0 cap ∧ n0 = tape.length ∧ (n0 ≤ cap ∧ cap ≤ 9223372036854775807) ∧ Hid (tape ≠ [] → ∃ g o, ra = some ⟨g, o, none⟩ ∧ Lies w g o tape ∧ g < w.heap.size) := by
    rcases hv with ⟨rfl, rfl⟩ | ⟨g, o, cap, rfl, h1, h2, h3, -, h5⟩
    · exact ⟨none, 0, 0, rfl, rfl, ⟨by omega, by omega⟩, fun h => absurd rfl h⟩
    · exact ⟨_, _, cap, rfl, rfl, ⟨h2, by unfold maxLen at h3; omega⟩, fun _ => ⟨g, o, rfl, h1, h5⟩⟩
  have hmk : (Instr.makeMap 78 none).run Try.prog w = .ok (.map (some w.heap.size)) (w.alloc (.map #[] 0)) := rfl
  have HN0 := Hid.mk hn0
  have hn1 : (n0 : Int) ≤ 40000000000000 := by omega
  have HRB := Hid.mk (rb_new w)
  clear hv hlen hn0
  go_enter Try.func24, Try.ntmps24
  go_wp2_with fail
  have HB0 : Hid (Below w.heap.size w ((w.alloc (.map #[] 0)).alloc (.cells #[.slice none 0 0, .map (some w.heap.size)] 94))) := Below.alloc ((Below.refl _ w).alloc (Nat.le_refl _) _) (by rw [size_alloc]; omega) _
  go_loopw [6] (fun vb wr => ∃ (rb : Option Addr) (nb cb : Nat), vb = .slice rb nb cb ∧ nb ≤ cb ∧ cb ≤ 9223372036854775807 ∧ nb ≤ n0 ∧ Hid (∃ (k : Nat) (b : List UInt8) (L : List Ord), tb k L b = built tape ∧ b.length ≤ k ∧ nb = b.length ∧ (b ≠ [] → ∃ g o, rb = some ⟨g, o, none⟩ ∧ Lies w g o b ∧ g < w.heap.size) ∧ RbAt wr w.heap.size (w.heap.size + 1) L ∧ 17 * L.length + b.length ≤ tape.length ∧ Below w.heap.size w wr)) (fun vb _ => match vb with | .slice _ nb _ => nb | _ => 0)
  case atStart => exact ⟨ra, n0, cap, rfl, hcap.1, hcap.2, Nat.le_refl _, tape.length, tape, [], rfl, Nat.le_refl _, HN0.out, HL.out, HRB.out, by simp, HB0.out⟩
  case round =>
    obtain ⟨rb, nb, cb, rfl, hb1, hb2, hb3, HI⟩ := hrel
    by_cases hz : nb = 0
    · have i1 : ¬ (0 : Int) < (nb : Int) := by omega
      have HX : Hid (∃ L, (built tape).1 = some L ∧ RbAt wr w.heap.size (w.heap.size + 1) L ∧ L.length ≤ 2900000000000 ∧ Below w.heap.size w wr) := by
        obtain ⟨k, b, L, e1, e2, e3, e4, e5, e6, e7⟩ := HI.out
        have hbn : b = [] := List.length_eq_zero_iff.1 (by omega)
        subst hbn
        rw [tb_nil] at e1
        refine ⟨L, by rw [← e1], e5, ?_, e7⟩
        have := HN0.out
        omega
      obtain ⟨L, x1, x2, x3, x4⟩ := HX.out
      have HLI := Hid.mk (list_any x2 x3)
      have HX1 := Hid.mk (And.intro x1 x4)
      clear HI HX x1 x2 x3 x4 hz
      go_wp2_with fail
      refine HLI.out.mono ?_
      rintro e w2 ⟨v2, C, rfl, c1, c2, c3, c4⟩
      have H2 := Hid.mk (And.intro c1 (And.intro c2 (And.intro c3 c4)))
      clear c1 c2 c3 c4
      go_wp2_with fail
      refine bodyPost_ret (v := .tuple #[v2, .int .i64 0, .int .i64 0]) (by simp [results, Try.results24, go_sem]) rfl ?_
      refine ⟨HX1.out.2.trans (H2.out.2.2.2.mono HX1.out.2.size), Or.inl ⟨L, v2, C, HX1.out.1, rfl, H2.out.1, H2.out.2.1, ?_⟩⟩
      exact ownsRow_base H2.out.2.2.1 HX1.out.2.size
    · have i1 : (0 : Int) < (nb : Int) := by omega
      obtain ⟨k, b, L, e1, e2, e3, e4, e5, e6, e7⟩ := HI.out
      have hbne : b ≠ [] := fun e => hz (by rw [e3, e]; rfl)
      obtain ⟨g, o, rfl, hli, hgl⟩ := e4 hbne
      have hlw : Lies wr g o b := hli.keep (e7.block g hgl)
      have c0 : wr.cell? ⟨g, o, none⟩ = some (.int .u8 (byteAt b 0).toNat) := hlw.cell 0 (by omega)
      have HTB := Hid.mk (tapeBytes_any (byteAt b 0) wr)
      obtain ⟨sz, hsz⟩ : ∃ sz, tSize (byteAt b 0) = sz := ⟨_, rfl⟩
      rw [hsz] at HTB
      have hszc : sz = 0 ∨ (11 ≤ sz ∧ sz ≤ 19) := by
        rcases tSize_cases (byteAt b 0) with e | ⟨-, e⟩ | ⟨-, e⟩ | ⟨-, e⟩ | ⟨-, e⟩ | ⟨-, e⟩ <;> omega
      have hgw : g < wr.heap.size := Nat.lt_of_lt_of_le hgl e7.size
      have HE := Hid.mk (And.intro e1 (And.intro e2 (And.intro e3 (And.intro hli (And.intro hlw (And.intro e5 (And.intro e6 (And.intro e7 (And.intro hbne hsz)))))))))
      have HT : Hid ((tape.length : Int) = (n0 : Int) ∧ (b.length : Int) = (nb : Int)) := ⟨by have := HN0.out; omega, by omega⟩
      clear HI e1 e2 e3 e4 e5 e6 e7 hli hlw hbne hsz hz
      have i2 : (nb : Int) ≤ (n0 : Int) := by omega
      have w1 : IntKind.i64.wrap ((n0 : Int) - (nb : Int)) = (n0 : Int) - (nb : Int) := by rw [IntKind.wrap_i64]; omega
      go_wp2_with fail
      refine HTB.out.mono ?_
      rintro e w2 ⟨rfl, hw⟩
      replace hw := hw.symm
      subst hw
      clear HTB
      by_cases hs0 : sz = 0
      · have b0 : ((sz : Int) == 0) = true := by simp [hs0]
        have HR : Hid (built tape = (none, b)) := by
          obtain ⟨e1, e2, e3, -, -, -, -, -, hbne, hsz⟩ := HE.out
          rw [← e1]
          exact tb_bad e2 hbne (Or.inl (by omega))
        clear hs0 hszc c0
        go_wp2_with fail
        refine bodyPost_ret (v := .tuple #[.slice none 0 0, .int .i64 ((n0 : Int) - (nb : Int)), .int .i64 2]) (by simp [results, Try.results24, go_sem]) rfl ?_
        refine ⟨HE.out.2.2.2.2.2.2.2.1, Or.inr ⟨by rw [HR.out], ?_⟩⟩
        rw [HR.out, HT.out.1, HT.out.2]
      · have b0 : ((sz : Int) == 0) = false := by rw [beq_eq_false_iff_ne]; omega
        have hs1 : 11 ≤ sz ∧ sz ≤ 19 := by omega
        by_cases hlt : nb < sz
        · have b1 : (nb : Int) < (sz : Int) := by omega
          have HR : Hid (built tape = (none, b)) := by
            obtain ⟨e1, e2, e3, -, -, -, -, -, hbne, hsz⟩ := HE.out
            rw [← e1]
            exact tb_bad e2 hbne (Or.inr (by omega))
          clear hs0 hszc c0
          go_wp2_with fail
          refine bodyPost_ret (v := .tuple #[.slice none 0 0, .int .i64 ((n0 : Int) - (nb : Int)), .int .i64 2]) (by simp [results, Try.results24, go_sem]) rfl ?_
          refine ⟨HE.out.2.2.2.2.2.2.2.1, Or.inr ⟨by rw [HR.out], ?_⟩⟩
          rw [HR.out, HT.out.1, HT.out.2]
        · have b1 : ¬ (nb : Int) < (sz : Int) := by omega
          have b2 : (7 : Int) ≤ (sz : Int) := by omega
          have b3 : (sz : Int) ≤ (cb : Int) := by omega
          have b4 : ¬ cb = 7 := by omega
          have b5 : (sz : Int) ≤ (nb : Int) := by omega
          have b6 : (nb : Int) ≤ (cb : Int) := by omega
          have HFO : Hid (∀ n7, sz - 7 = n7 → Calls Try.prog 38 #[.pointer (some ⟨w.heap.size + 1, 0, none⟩), .int .u8 (byteAt b 0).toNat, .slice (some ⟨g, o + 7, none⟩) n7 (cb - 7)] wr (FolP (fol L (byteAt b 0) ((b.take sz).drop 7)) w.heap.size (w.heap.size + 1) wr)) := by
            rintro n7 rfl
            obtain ⟨e1, e2, e3, hli, hlw, e5, e6, e7, hbne, hsz⟩ := HE.out
            have hN := HN0.out
            exact follow_any e5 e7.size (by omega) (byteAt b 0) g (o + 7) (sz - 7) (cb - 7) ((b.take sz).drop 7) (by rw [List.length_drop, List.length_take]; omega) (by rw [hsz]) (by omega) (by omega) (by omega) ((hlw.take sz).drop 7) hgw
          have HF2 : Hid ((fol L (byteAt b 0) ((b.take sz).drop 7) = none → built tape = (none, b)) ∧ (∀ L', fol L (byteAt b 0) ((b.take sz).drop 7) = some L' → 17 * L'.length + (b.drop sz).length ≤ tape.length ∧ ∃ k', (b.drop sz).length ≤ k' ∧ tb k' L' (b.drop sz) = built tape)) := by
            obtain ⟨e1, e2, e3, hli, hlw, e5, e6, e7, hbne, hsz⟩ := HE.out
            have := tb_fol (L := L) e2 hbne (by omega)
            rw [hsz, e1] at this
            refine ⟨this.1, fun L' h' => ?_⟩
            obtain ⟨k', x1, x2⟩ := this.2 L' h'
            refine ⟨?_, k', x1, x2.symm⟩
            have hfl := fol_len h'
            rw [hsz] at hfl
            rw [List.length_drop]
            omega
          generalize fol L (byteAt b 0) ((b.take sz).drop 7) = res at *
          clear hs0 hszc
          go_wp2_with fail
          refine (HFO.out _ rfl).mono ?_
          rintro e w2 ⟨hB2, ⟨hr2, rfl⟩ | ⟨L2, hr2, rfl, hR2⟩⟩
          · have H2 := Hid.mk (And.intro hB2 (HF2.out.1 hr2))
            clear hB2 hr2 HFO c0
            go_wp2_with fail
            refine bodyPost_ret (v := .tuple #[.slice none 0 0, .int .i64 ((n0 : Int) - (nb : Int)), .int .i64 2]) (by simp [results, Try.results24, go_sem]) rfl ?_
            refine ⟨HE.out.2.2.2.2.2.2.2.1.trans H2.out.1, Or.inr ⟨by rw [H2.out.2], ?_⟩⟩
            rw [H2.out.2, HT.out.1, HT.out.2]
          · have H2 := Hid.mk (And.intro hB2 (And.intro hR2 (HF2.out.2 L2 hr2)))
            clear hB2 hr2 hR2 HFO c0
            have HNX : Hid (∀ (rb' : Option Addr) (nb' cb' : Nat), nb' = nb - sz → (cb ≠ sz → rb' = some ⟨g, o + sz, none⟩) → ∃ (k : Nat) (b : List UInt8) (L : List Ord), tb k L b = built tape ∧ b.length ≤ k ∧ nb' = b.length ∧ (b ≠ [] → ∃ g o, rb' = some ⟨g, o, none⟩ ∧ Lies w g o b ∧ g < w.heap.size) ∧ RbAt w2 w.heap.size (w.heap.size + 1) L ∧ 17 * L.length + b.length ≤ tape.length ∧ Below w.heap.size w w2) := by
              intro rb' nb' cb' h1 h2
              obtain ⟨e1, e2, e3, hli, hlw, e5, e6, e7, hbne, hsz⟩ := HE.out
              obtain ⟨y1, y2, y3, k', y4, y5⟩ := H2.out
              refine ⟨k', b.drop sz, L2, y5, y4, by rw [List.length_drop]; omega, ?_, y2, y3, e7.trans y1⟩
              intro hne
              have hlen : (b.drop sz).length ≠ 0 := fun e => hne (List.length_eq_zero_iff.1 e)
              rw [List.length_drop] at hlen
              exact ⟨g, o + sz, h2 (by omega), hli.drop sz, hgl⟩
            by_cases hcs : cb = sz
            · subst hcs
              have hnb : nb = cb := by omega
              subst hnb
              go_wp2_with fail
              refine ⟨⟨_, 0, 0, rfl, Nat.le_refl _, by omega, Nat.zero_le _, HNX.out _ 0 0 (by omega) (fun h => absurd rfl h)⟩, ?_⟩
              show 0 < nb
              omega
            · have b7 : ¬ cb = sz := hcs
              go_wp2_with fail
              refine ⟨⟨_, nb - sz, cb - sz, rfl, by omega, by omega, by omega, HNX.out _ (nb - sz) (cb - sz) rfl (fun _ => rfl)⟩, ?_⟩
              show nb - sz < nb
              omega

end Go.Proofs.Ytphkchjejbffeaa

/- The walk of the document's Build. -/
namespace Go.Proofs.Ytphkchjejbffeaa
open Go.RowKit
attribute [local go_sem ↓] Go.wp_at_zero Go.wp_at_succ

theorem rtaped_any {w : World} {base : Nat} {v : Value} {S : List Ord} (h : RsAt w base v S) (hsm : SmR S) (hb : base ≤ w.heap.size) (hn : S.length ≤ 1000000000) (gm om n cm : Nat) (c : UInt8) (M : List UInt8) (hM : Lies w gm om M) (hl : M.length = n) (hnc : n = tSize c) (hz : tSize c ≠ 0) (hc : n ≤ cm) (hcm : cm ≤ 9223372036854775807) (hgm : gm < base) (h0 : byteAt M 0 = c) :
    Calls Try.prog 68 #[v, .slice (some ⟨gm, om, none⟩) n cm] w (RefP (rTaped S c (M.drop 7)) base w) := by
  rcases tSize_cases c with e | ⟨rfl, e⟩ | ⟨rfl, e⟩ | ⟨rfl, e⟩ | ⟨rfl, e⟩ | ⟨rfl, e⟩
  · exact absurd e hz
  · obtain rfl : n = 17 := by rw [hnc, e]
    exact rtaped_a h hsm hb hn gm om cm M hM hl hc hcm hgm h0
  · obtain rfl : n = 17 := by rw [hnc, e]
    exact rtaped_e h hsm hb hn gm om cm M hM hl hc hcm hgm h0
  · obtain rfl : n = 13 := by rw [hnc, e]
    exact rtaped_x h hsm hb hn gm om cm M hM hl hc hcm hgm h0
  · obtain rfl : n = 11 := by rw [hnc, e]
    exact rtaped_d h hsm hb hn gm om cm M hM hl hc hcm hgm h0
  · obtain rfl : n = 19 := by rw [hnc, e]
    exact rtaped_u h hsm hb hn gm om cm M hM hl hc hcm hgm h0

theorem ins_len (o : Ord) (S : List Ord) : (insO o S).length = S.length + 1 := by
  induction S with
  | nil => rfl
  | cons x S ih =>
    unfold insO
    split
    · rw [List.length_cons, ih, List.length_cons]
    · rfl
theorem rtaped_len {S S' : List Ord} {c : UInt8} {f : List UInt8} (h : rTaped S c f = some S') : S'.length ≤ S.length + 1 := by
  have he : ∀ i, (S.eraseIdx i).length ≤ S.length := fun i => by rw [List.length_eraseIdx]; split <;> omega
  have hg : ∀ i n all, rGone S i n all = some S' → S'.length ≤ S.length + 1 := by
    intro i n all h
    unfold rGone at h
    split at h
    · cases h
    · split at h
      · cases h
      · split at h
        · cases h
        · split at h
          · cases h
            exact Nat.le_succ_of_le (he _)
          · cases h
            rw [List.length_set]
            omega
  unfold rTaped at h
  split at h
  · split at h
    · cases h
    · cases h
      rw [ins_len]
      exact Nat.le_refl _
  · split at h
    · exact hg _ _ _ h
    · split at h
      · exact hg _ _ _ h
      · split at h
        · unfold rOther at h
          split at h
          · cases h
          · split at h
            · cases h
            · split at h
              · cases h
              · split at h
                · cases h
                  rw [List.length_set]
                  omega
                · cases h
                  rw [ins_len]
                  exact Nat.succ_le_succ (he _)
        · rw [Option.map_eq_some_iff] at h
          obtain ⟨i, -, rfl⟩ := h
          exact Nat.le_succ_of_le (he _)

theorem rb_nil (k : Nat) (L : List Ord) : rb k L [] = (some L, []) := by
  cases k with
  | zero => rfl
  | succ k => rfl
theorem rb_bad {k : Nat} {L : List Ord} {b : List UInt8} (hk : b.length ≤ k) (hb : b ≠ []) (h : tSize (byteAt b 0) = 0 ∨ b.length < tSize (byteAt b 0)) : rb k L b = (none, b) := by
  cases k with
  | zero => exact absurd (List.length_eq_zero_iff.1 (by omega)) hb
  | succ k =>
    show (if _ then _ else _) = _
    rw [if_neg hb, if_pos h]
theorem rb_fol {k : Nat} {L : List Ord} {b : List UInt8} (hk : b.length ≤ k) (hb : b ≠ []) (h : ¬ (tSize (byteAt b 0) = 0 ∨ b.length < tSize (byteAt b 0))) :
    (rTaped L (byteAt b 0) ((b.take (tSize (byteAt b 0))).drop 7) = none → rb k L b = (none, b)) ∧
    (∀ L', rTaped L (byteAt b 0) ((b.take (tSize (byteAt b 0))).drop 7) = some L' → ∃ k', (b.drop (tSize (byteAt b 0))).length ≤ k' ∧ rb k L b = rb k' L' (b.drop (tSize (byteAt b 0)))) := by
  cases k with
  | zero => exact absurd (List.length_eq_zero_iff.1 (by omega)) hb
  | succ k =>
    have e : rb (k + 1) L b = match rTaped L (byteAt b 0) ((b.take (tSize (byteAt b 0))).drop 7) with
      | none => (none, b)
      | some L' => rb k L' (b.drop (tSize (byteAt b 0))) := by
      show (if _ then _ else _) = _
      rw [if_neg hb, if_neg h]
      rfl
    refine ⟨fun h1 => by rw [e, h1], fun L' h1 => ⟨k, ?_, by rw [e, h1]⟩⟩
    rw [List.length_drop]
    omega

/-- What the document's Build answers. -/
def RBuiltP (w : World) (tape : List UInt8) (e : Ending) (w' : World) : Prop :=
  Below w.heap.size w w' ∧
  ((∃ S v, (rb tape.length [] tape).1 = some S ∧ e = .returned (.tuple #[v, .int .i64 0, .int .i64 0]) ∧ RsAt w' w.heap.size v S) ∨
   ((rb tape.length [] tape).1 = none ∧ e = .returned (.tuple #[.slice none 0 0, .int .i64 ((tape.length : Int) - ((rb tape.length [] tape).2.length : Int)), .int .i64 2])))

set_option maxRecDepth 100000 in
set_option maxHeartbeats 4000000 in
theorem rbuild_any (w : World) (v : Value) (tape : List UInt8) (hv : Rd w (fun _ => False) v tape) (hlen : tape.length ≤ 10000000) :
    Calls Try.prog 42 #[v] w (RBuiltP w tape) := by
  obtain ⟨ra, n0, cap, rfl, hn0, hcap, HL⟩ : ∃ ra n0 cap, v = .slice ra n0 cap ∧ n0 = tape.length ∧ (n0 ≤ cap ∧ cap ≤ 9223372036854775807) ∧ Hid (tape ≠ [] → ∃ g o, ra = some ⟨g, o, none⟩ ∧ Lies w g o tape ∧ g < w.heap.size) := by
    rcases hv with ⟨rfl, rfl⟩ | ⟨g, o, cap, rfl, h1, h2, h3, -, h5⟩
    · exact ⟨none, 0, 0, rfl, rfl, ⟨by omega, by omega⟩, fun h => absurd rfl h⟩
    · exact ⟨_, _, cap, rfl, rfl, ⟨h2, by unfold maxLen at h3; omega⟩, fun _ => ⟨g, o, rfl, h1, h5⟩⟩
  have HN0 := Hid.mk hn0
  have hn1 : (n0 : Int) ≤ 10000000 := by omega
  obtain ⟨R, hR⟩ : ∃ R, rb tape.length [] tape = R := ⟨_, rfl⟩
  have HRR := Hid.mk hR
  clear hv hlen hn0 hR
  go_enter Try.func42, Try.ntmps42
  go_wp2_with fail
  go_loopw [5, 6] (fun vl va wr => ∃ (rl : Option Addr) (nl cl a : Nat), vl = .slice rl nl cl ∧ va = .int .i64 a ∧ a ≤ n0 ∧ Hid (∃ (k : Nat) (S : List Ord), rb k S (tape.drop a) = R ∧ (tape.drop a).length ≤ k ∧ RsAt wr w.heap.size (.slice rl nl cl) S ∧ SmR S ∧ S.length ≤ a ∧ Below w.heap.size w wr)) (fun _ va _ => n0 - (intOf va).toNat)
  case atStart => exact ⟨none, 0, 0, 0, rfl, rfl, Nat.zero_le _, tape.length, [], HRR.out, Nat.le_refl _, World.ownsRow_nil _ _ _ _, fun o ho => (by cases ho), Nat.le_refl _, Below.refl _ _⟩
  case round =>
    obtain ⟨rl, nl, cl, a, rfl, rfl, ha, HI⟩ := hrel
    by_cases hz : a < n0
    · have i1 : (a : Int) < (n0 : Int) := by omega
      have i2 : (0 : Int) ≤ (a : Int) := by omega
      obtain ⟨k, S, e1, e2, e3, e4, e5, e6⟩ := HI.out
      have hbl : (tape.drop a).length = n0 - a := by rw [List.length_drop, HN0.out]
      have hbne : tape.drop a ≠ [] := fun e => by rw [e] at hbl; simp at hbl; omega
      have htne : tape ≠ [] := fun e => by rw [e] at hbne; simp at hbne
      obtain ⟨g, o, rfl, hli, hgl⟩ := HL.out htne
      have hlw : Lies wr g (o + a) (tape.drop a) := (hli.keep (e6.block g hgl)).drop a
      have c0 : wr.cell? ⟨g, o + a, none⟩ = some (.int .u8 (byteAt (tape.drop a) 0).toNat) := hlw.cell 0 (by omega)
      have HTB := Hid.mk (rlong_any (byteAt (tape.drop a) 0) wr)
      obtain ⟨sz, hsz⟩ : ∃ sz, tSize (byteAt (tape.drop a) 0) = sz := ⟨_, rfl⟩
      rw [hsz] at HTB
      have hszc : sz = 0 ∨ (11 ≤ sz ∧ sz ≤ 19) := by
        rcases tSize_cases (byteAt (tape.drop a) 0) with e | ⟨-, e⟩ | ⟨-, e⟩ | ⟨-, e⟩ | ⟨-, e⟩ | ⟨-, e⟩ <;> omega
      have HE := Hid.mk (And.intro e1 (And.intro e2 (And.intro hbl (And.intro hlw (And.intro e3 (And.intro e4 (And.intro e5 (And.intro e6 (And.intro hbne hsz)))))))))
      obtain ⟨b, hb0⟩ : ∃ b, tape.drop a = b := ⟨_, rfl⟩
      rw [hb0] at HE c0 HTB
      have hbd : Hid (b = tape.drop a) := hb0.symm
      clear HI hb0 e1 e2 e3 e4 e5 e6 hli hlw hbne hsz hbl htne
      obtain ⟨z, hz1⟩ : ∃ z, a + sz = z := ⟨_, rfl⟩
      have w1 : IntKind.i64.wrap ((a : Int) + (sz : Int)) = (z : Int) := by rw [IntKind.wrap_i64]; omega
      have w2 : (a : Int) + (sz : Int) = (z : Int) := by omega
      have w3 : wrap64 (z : Int) = (z : Int) := by unfold wrap64; omega
      have HT : Hid ((tape.length : Int) - (b.length : Int) = (a : Int)) := by
        have h1 := HN0.out
        have h2 := HE.out.2.2.1
        show _ = _
        omega
      go_wp2_with fail
      refine HTB.out.mono ?_
      rintro e w' ⟨rfl, hw⟩
      replace hw := hw.symm
      subst hw
      clear HTB
      by_cases hs0 : sz = 0
      · have b0 : ((sz : Int) == 0) = true := by simp [hs0]
        have HR : Hid (R = (none, b)) := by
          obtain ⟨e1, e2, e3, -, -, -, -, -, hbne, hsz⟩ := HE.out
          rw [← e1]
          exact rb_bad e2 hbne (Or.inl (by omega))
        clear hs0 hszc c0
        go_wp2_with fail
        refine bodyPost_ret (v := .tuple #[.slice none 0 0, .int .i64 a, .int .i64 2]) (by simp [results, Try.results42, go_sem]) rfl ?_
        refine ⟨HE.out.2.2.2.2.2.2.2.1, Or.inr ⟨by rw [HRR.out, HR.out], ?_⟩⟩
        rw [HRR.out, HR.out, HT.out]
      · have b0 : ((sz : Int) == 0) = false := by rw [beq_eq_false_iff_ne]; omega
        by_cases hlt : n0 < z
        · have b1 : (n0 : Int) < (z : Int) := by omega
          have HR : Hid (R = (none, b)) := by
            obtain ⟨e1, e2, e3, -, -, -, -, -, hbne, hsz⟩ := HE.out
            rw [← e1]
            exact rb_bad e2 hbne (Or.inr (by omega))
          clear hs0 hszc c0
          go_wp2_with fail
          refine bodyPost_ret (v := .tuple #[.slice none 0 0, .int .i64 a, .int .i64 2]) (by simp [results, Try.results42, go_sem]) rfl ?_
          refine ⟨HE.out.2.2.2.2.2.2.2.1, Or.inr ⟨by rw [HRR.out, HR.out], ?_⟩⟩
          rw [HRR.out, HR.out, HT.out]
        · have b1 : ¬ (n0 : Int) < (z : Int) := by omega
          have b2 : (a : Int) ≤ (z : Int) := by omega
          have b3 : (z : Int) ≤ (cap : Int) := by omega
          have b4 : ¬ cap = a := by omega
          have b5 : (cap : Int) ≤ 9223372036854775807 := by omega
          have hza : z - a = sz := by omega
          have hs1 : 11 ≤ sz := by omega
          have HTA : Hid (Calls Try.prog 68 #[.slice rl nl cl, .slice (some ⟨g, o + a, none⟩) sz (cap - a)] wr (RefP (rTaped S (byteAt b 0) ((b.take sz).drop 7)) w.heap.size wr)) := by
            obtain ⟨e1, e2, e3, hlw, e4, e5, e6, e7, hbne, hsz⟩ := HE.out
            exact rtaped_any e4 e5 e7.size (by omega) g (o + a) sz (cap - a) (byteAt b 0) (b.take sz) (hlw.take sz) (by rw [List.length_take]; omega) hsz.symm (by omega) (by omega) (by omega) hgl (by
              unfold byteAt
              rw [List.getD_eq_getElem?_getD, List.getD_eq_getElem?_getD, List.getElem?_take, if_pos (by omega)])
          have HF2 : Hid ((rTaped S (byteAt b 0) ((b.take sz).drop 7) = none → R = (none, b)) ∧ (∀ S', rTaped S (byteAt b 0) ((b.take sz).drop 7) = some S' → S'.length ≤ z ∧ ∃ k', (b.drop sz).length ≤ k' ∧ rb k' S' (b.drop sz) = R)) := by
            obtain ⟨e1, e2, e3, hlw, e4, e5, e6, e7, hbne, hsz⟩ := HE.out
            have := rb_fol (L := S) e2 hbne (by omega)
            rw [hsz, e1] at this
            refine ⟨this.1, fun L' h' => ?_⟩
            obtain ⟨k', x1, x2⟩ := this.2 L' h'
            have hfl := rtaped_len h'
            exact ⟨by omega, k', x1, x2.symm⟩
          generalize rTaped S (byteAt b 0) ((b.take sz).drop 7) = res at *
          clear hs0 hszc hz1
          go_wp2_with fail
          refine HTA.out.mono ?_
          rintro e w2 ⟨hB2, ⟨hr2, rfl⟩ | ⟨S2, v2, hr2, rfl, hR2, hS2⟩⟩
          · have H2 := Hid.mk (And.intro hB2 (HF2.out.1 hr2))
            clear hB2 hr2 HTA c0
            go_wp2_with fail
            refine bodyPost_ret (v := .tuple #[.slice none 0 0, .int .i64 a, .int .i64 2]) (by simp [results, Try.results42, go_sem]) rfl ?_
            refine ⟨HE.out.2.2.2.2.2.2.2.1.trans H2.out.1, Or.inr ⟨by rw [HRR.out, H2.out.2], ?_⟩⟩
            rw [HRR.out, H2.out.2, HT.out]
          · have H2 := Hid.mk (And.intro hB2 (And.intro hR2 (And.intro hS2 (HF2.out.2 S2 hr2))))
            obtain ⟨r3, c3, hv3, -, -, -⟩ := hR2.form
            subst hv3
            clear hB2 hr2 hR2 hS2 HTA c0
            go_wp2_with fail
            refine ⟨⟨r3, S2.length, c3, z, rfl, rfl, by omega, ?_⟩, ?_⟩
            · obtain ⟨y1, y2, y3, y4, k', y5, y6⟩ := H2.out
              have hdd : tape.drop z = b.drop sz := by rw [hbd.out, List.drop_drop, show a + sz = z by omega]
              show ∃ (k : Nat) (S : List Ord), _
              rw [hdd]
              exact ⟨k', S2, y6, y5, y2, y3, y4, HE.out.2.2.2.2.2.2.2.1.trans y1⟩
            · show n0 - (intOf (.int .i64 z)).toNat < n0 - (intOf (.int .i64 a)).toNat
              simp [intOf]
              omega
    · have i1 : ¬ (a : Int) < (n0 : Int) := by omega
      have HX : Hid (∃ S, R.1 = some S ∧ RsAt wr w.heap.size (.slice rl nl cl) S ∧ Below w.heap.size w wr) := by
        obtain ⟨k, S, e1, e2, e3, e4, e5, e6⟩ := HI.out
        have hbn : tape.drop a = [] := by rw [List.drop_eq_nil_iff]; have := HN0.out; omega
        rw [hbn, rb_nil] at e1
        exact ⟨S, by rw [← e1], e3, e6⟩
      clear HI
      go_wp2_with fail
      refine bodyPost_ret (v := .tuple #[.slice rl nl cl, .int .i64 0, .int .i64 0]) (by simp [results, Try.results42, go_sem]) rfl ?_
      obtain ⟨S, x1, x2, x3⟩ := HX.out
      exact ⟨x3, Or.inl ⟨S, _, by rw [HRR.out]; exact x1, rfl, x2⟩⟩

end Go.Proofs.Ytphkchjejbffeaa

/- string(b). -/
namespace Go.Proofs.Ytphkchjejbffeaa
open Go.RowKit

theorem run_str {w : World} {F : Nat → Prop} {v : Value} {l : List UInt8} (h : Rd w F v l) : (convert 28 9 v).run Try.prog w = .ok (.string ⟨l.toArray⟩) w := by
  rcases h with ⟨rfl, rfl⟩ | ⟨g, o, cap, rfl, hl, -⟩
  · rw [run_convert_bytes_nil w 28 5 Try.underlying28 Try.underlying5 0 0 9 Try.underlying9]
    rfl
  · refine run_convert_bytes_back w 28 9 5 ⟨g, o, none⟩ cap l Try.underlying28 Try.underlying5 Try.underlying9 ?_
    intro j hj
    rw [Addr.add_lit]
    exact hl j _ (List.getElem?_eq_getElem hj)

end Go.Proofs.Ytphkchjejbffeaa

/- bourselaw's small helpers; what its World holds. -/
namespace Go.Proofs.Ytphkchjejbffeaa
open Go.RowKit
attribute [local go_sem ↓] Go.wp_at_zero Go.wp_at_succ

theorem lawnum_any (x : Int) (w : World) : Calls Try.prog 45 #[.int .i64 x] w fun e w' => e = .returned (.int .i64 x) ∧ w' = w := by
  go_enter Try.func45, Try.ntmps45
  go_wp2_with fail
  go_ret
  exact ⟨rfl, rfl⟩

set_option maxRecDepth 100000 in
set_option maxHeartbeats 1000000 in
theorem sameOrders_same (w : World) (b1 b2 : Nat) (v1 v2 : Value) (C : List Ord) (h1 : RsAt w b1 v1 C) (h2 : RsAt w b2 v2 C) (hn : C.length ≤ 1000000000) :
    Calls Try.prog 43 #[v1, v2] w fun e w' => e = .returned (.bool true) ∧ Below w.heap.size w w' := by
  obtain ⟨r1, c1, rfl, -, -, hc1⟩ := h1.form
  obtain ⟨r2, c2, rfl, -, -, hc2⟩ := h2.form
  have HC := Hid.mk (And.intro hc1 hc2)
  clear h1 h2 hc1 hc2
  go_enter Try.func43, Try.ntmps43
  go_wp2_with fail
  go_loopw [5] (fun i w9 => ∃ k : Nat, k ≤ C.length ∧ i = .int .i64 k ∧ Below w.heap.size w w9) (fun i _ => C.length - (intOf i).toNat)
  case atStart => exact ⟨0, Nat.zero_le _, rfl, Below.refl _ _⟩
  case round =>
    obtain ⟨k, hk, rfl, hB9⟩ := hrel
    by_cases hkl : k < C.length
    · obtain ⟨y, hy⟩ : ∃ y, C[k]? = some y := ⟨_, List.getElem?_eq_getElem hkl⟩
      obtain ⟨g1, rfl, -, hg1, -, hr1⟩ := HC.out.1 k y hy
      obtain ⟨g2, rfl, -, hg2, -, hr2⟩ := HC.out.2 k y hy
      obtain ⟨b0, b1, b2, b3, b4, b5⟩ := ord_cells y hB9 hg1 (fun t u _ hu => hr1 t u hu)
      obtain ⟨e0, e1, e2, e3, e4, e5⟩ := ord_cells y hB9 hg2 (fun t u _ hu => hr2 t u hu)
      obtain ⟨ref, token, side, stock, price, shares⟩ := y
      simp only at b0 b1 b2 b3 b4 b5 e0 e1 e2 e3 e4 e5
      have i3 : (0 : Int) ≤ (k : Int) := by omega
      have i4 : (k : Int) < (C.length : Int) := by omega
      have HB9 := Hid.mk hB9
      clear hr1 hr2 hy hB9
      go_wp2_with fail
      go_quiet (fail)
      go_wp2_with fail
      exact ⟨⟨k + 1, by omega, by go_num, below_drewN HB9.out _⟩, by simp [intOf]; omega⟩
    · have HB9 := Hid.mk hB9
      clear hB9
      go_wp2_with fail
      go_ret
      exact ⟨rfl, HB9.out⟩

/-- The cells of an order that its owner wrote. -/
def inkL (m : Int) : List Value := [.int .i64 0, .int .i64 m, .int .u8 0, .int .i64 0, .int .i64 0, .int .i64 0]
/-- Bytes that were lent, written over. -/
def Ful (w : World) (v : Value) : Prop := ∃ g n, v = .slice (some ⟨g, 0, none⟩) n n ∧ n ≤ 10000000 ∧ w.heap[g]? = some (.cells (List.replicate n (B 69)).toArray 5)
/-- Orders that were kept, written over. -/
def Ink (w : World) (v : Value) (m : Int) : Prop := v = .slice none 0 0 ∨ ∃ g n cap cur, v = .slice (some ⟨g, 0, none⟩) n cap ∧ n ≤ 10000000 ∧ n ≤ cap ∧ cap ≤ maxLen ∧ w.heap[g]? = some (.cells cur 46) ∧ ∀ i t u, i < n → (inkL m)[t]? = some u → w.cell? ⟨g, i * 6 + t, none⟩ = some u

structure WC (w : World) (B0 wb nn : Nat) (ins ex : List Value) (ords : List (Value × Int)) (vi vo vm : Value) : Prop where
  blk : w.heap[wb]? = some (.cells #[.slice none 0 0, .int .i64 nn, vi, .slice none 0 0, .slice none 0 0, vo, vm] 67)
  bw : B0 ≤ wb
  rin : w.ownsRow B0 28 1 vi (ins ++ ex).length (ins ++ ex)
  ror : w.ownsRow B0 42 1 vo ords.length (ords.map (·.1))
  rom : w.ownsRow B0 3 1 vm ords.length (ords.map fun p => .int .i64 p.2)
  ful : ∀ v ∈ ins, Ful w v
  ink : ∀ p ∈ ords, Ink w p.1 p.2

theorem obj_of_row {w : World} {b : Nat} {e : TypeId} {size : Nat} {v : Value} {n : Nat} {xs : List Value} (h : w.ownsRow b e size v n xs) (g : Nat) (hg : v.ownBlock = some g) : ∃ cur, w.heap[g]? = some (.cells cur e (0, 0)) := by
  rcases h.2 with ⟨h1, -⟩ | ⟨g', cap, cur, h1, -, h3, -⟩
  · rw [h1] at hg; cases hg
  · rw [h1] at hg
    cases hg
    exact ⟨cur, h3⟩
theorem ne_obj {w : World} {a b : Nat} {c c' : Array Value} {t t' : TypeId} (h1 : w.heap[a]? = some (.cells c t)) (h2 : w.heap[b]? = some (.cells c' t')) (ht : t ≠ t') : a ≠ b := by
  intro e
  rw [e, h2] at h1
  simp at h1
  exact ht h1.2.symm

theorem Ful.keep {w w' : World} {v : Value} (h : Ful w v) (hk : ∀ (g : Nat) (cur : Array Value), w.heap[g]? = some (.cells cur 5) → w'.heap[g]? = w.heap[g]?) : Ful w' v := by
  obtain ⟨g, n, h1, h2, h3⟩ := h
  exact ⟨g, n, h1, h2, (hk g _ h3).trans h3⟩
theorem Ink.keep {w w' : World} {v : Value} {m : Int} (h : Ink w v m) (hk : ∀ (g : Nat) (cur : Array Value), w.heap[g]? = some (.cells cur 46) → v.ownBlock = some g → w'.heap[g]? = w.heap[g]?) : Ink w' v m := by
  rcases h with h | ⟨g, n, cap, cur, h1, h2, h3, h4, h5, h6⟩
  · exact .inl h
  · have e := hk g _ h5 (by rw [h1]; rfl)
    exact .inr ⟨g, n, cap, cur, h1, h2, h3, h4, e.trans h5, fun i t u hi hu => (World.cell?_of_block (a := ⟨g, i * 6 + t, none⟩) e).trans (h6 i t u hi hu)⟩
theorem Ink.lt {w : World} {v : Value} {m : Int} (h : Ink w v m) (g : Nat) (hg : v.ownBlock = some g) : g < w.heap.size := by
  rcases h with h | ⟨g', n, cap, cur, h1, h2, h3, h4, h5, h6⟩
  · rw [h] at hg; cases hg
  · rw [h1] at hg
    cases hg
    exact (Array.getElem?_eq_some_iff.1 h5).1

theorem WC.below {w w' : World} {B0 wb nn : Nat} {ins ex : List Value} {ords : List (Value × Int)} {vi vo vm : Value} (h : WC w B0 wb nn ins ex ords vi vo vm) (hB : Below w.heap.size w w') : WC w' B0 wb nn ins ex ords vi vo vm :=
  ⟨(hB.block wb (Array.getElem?_eq_some_iff.1 h.blk).1).trans h.blk, h.bw, ownsRow_keep h.rin (fun g hg => hB.block g (World.ownsRow.lt h.rin g hg).2), ownsRow_keep h.ror (fun g hg => hB.block g (World.ownsRow.lt h.ror g hg).2), ownsRow_keep h.rom (fun g hg => hB.block g (World.ownsRow.lt h.rom g hg).2),
   fun v hv => (h.ful v hv).keep (fun g _ hg => hB.block g (Array.getElem?_eq_some_iff.1 hg).1), fun p hp => (h.ink p hp).keep (fun g _ hg _ => hB.block g (Array.getElem?_eq_some_iff.1 hg).1)⟩

theorem WC.cell {w : World} {B0 wb nn : Nat} {ins ex : List Value} {ords : List (Value × Int)} {vi vo vm : Value} (h : WC w B0 wb nn ins ex ords vi vo vm) : w.cell? ⟨wb, 1, none⟩ = some (.int .i64 nn) ∧ w.cell? ⟨wb, 2, none⟩ = some vi ∧ w.cell? ⟨wb, 5, none⟩ = some vo ∧ w.cell? ⟨wb, 6, none⟩ = some vm ∧ w.cell? ⟨wb, 3, none⟩ = some (.slice none 0 0) ∧ w.cell? ⟨wb, 4, none⟩ = some (.slice none 0 0) ∧ (∀ j, w.frozen? ⟨wb, j, none⟩ = false) ∧ wb < w.heap.size :=
  ⟨cell_of_row w wb 1 _ _ (0, 0) h.blk, cell_of_row w wb 2 _ _ (0, 0) h.blk, cell_of_row w wb 5 _ _ (0, 0) h.blk, cell_of_row w wb 6 _ _ (0, 0) h.blk, cell_of_row w wb 3 _ _ (0, 0) h.blk, cell_of_row w wb 4 _ _ (0, 0) h.blk, fun j => by simp [World.frozen?, h.blk], (Array.getElem?_eq_some_iff.1 h.blk).1⟩

end Go.Proofs.Ytphkchjejbffeaa

/- bourselaw's lend. -/
namespace Go.Proofs.Ytphkchjejbffeaa
open Go.RowKit
attribute [local go_sem ↓] Go.wp_at_zero Go.wp_at_succ

theorem Try.infoBys : (Try.prog.info? 28).map (fun i => (i.zero, i.size, i.bytes)) = some (some (.slice none 0 0), 1, 24) := by kernel_rfl
theorem und_byss : Try.prog.underlying 64 = some (.slice 28) := by kernel_rfl

/-- What is lent: the bytes, and two more. -/
def lentL (l : List UInt8) : List Value := l.map B ++ [.int .u8 165, .int .u8 165]

theorem rdRow_val (W : World) (v : Value) (T : TypeId) : RdRow (W.alloc (.cells #[v] T)) 1 (.slice (some ⟨W.heap.size, 0, none⟩) 1 1) 1 [v] := by
  refine Or.inr ⟨W.heap.size, 0, 1, rfl, rfl, ?_⟩
  intro j u hu
  rw [cell_of_row _ W.heap.size _ _ T (0, 0) (by rw [heap_alloc, if_pos rfl])]
  simpa using hu

set_option maxRecDepth 100000 in
set_option maxHeartbeats 2000000 in
theorem lend_any {w : World} {B0 wb nn : Nat} {ins : List Value} {ords : List (Value × Int)} {vi vo vm : Value} (h : WC w B0 wb nn ins [] ords vi vo vm) (hb : B0 ≤ w.heap.size) (hin : ins.length ≤ 1000000) (l : List UInt8) (hl : l.length ≤ 1100000) :
    Calls Try.prog 40 #[.pointer (some ⟨wb, 0, none⟩), .string ⟨l.toArray⟩] w fun e w' => ∃ vi', e = .returned (.slice (some ⟨w.heap.size, 0, none⟩) l.length (l.length + 2)) ∧ WC w' B0 wb nn ins [.slice (some ⟨w.heap.size, 0, none⟩) (l.length + 2) (l.length + 2)] ords vi' vo vm ∧ w'.heap[w.heap.size]? = some (.cells (lentL l).toArray 5) ∧ Below B0 w w' := by
  obtain ⟨n, hn⟩ : ∃ n, l.length = n := ⟨_, rfl⟩
  obtain ⟨n2, hn2⟩ : ∃ n2, n + 2 = n2 := ⟨_, rfl⟩
  have hsz : (⟨l.toArray⟩ : ByteArray).size = n := hn
  obtain ⟨n1, hn1⟩ : ∃ n1, n + 1 = n1 := ⟨_, rfl⟩
  have i1 : (n : Int) < (n2 : Int) := by omega
  have i2 : (0 : Int) ≤ (n : Int) := by omega
  have i3 : (n1 : Int) < (n2 : Int) := by omega
  have i4 : (0 : Int) ≤ (n1 : Int) := by omega
  have i5 : (n : Int) ≤ (n2 : Int) := by omega
  have w1 : (n : Int) + 2 = (n2 : Int) := by omega
  have w2 : (n : Int) + 1 = (n1 : Int) := by omega
  have w3 : wrap64 (n2 : Int) = (n2 : Int) := by unfold wrap64; omega
  have w4 : wrap64 (n1 : Int) = (n1 : Int) := by unfold wrap64; omega
  have hll : ((⟨l.toArray⟩ : ByteArray).size : Int) = (n : Int) := by rw [hsz]
  have hmk : (Instr.makeSlice 28 (.int .i64 n2) (.int .i64 n2)).run Try.prog w = .ok (.slice (some ⟨w.heap.size, 0, none⟩) n2 n2) (w.alloc (.cells (List.replicate n2 (B 0)).toArray 5)) := by
    obtain ⟨i0, hi, hz0, hz1, hz2⟩ := info_parts Try.info5
    have := run_make (P := Try.prog) w 28 5 i0 (.int .u8 0) Try.underlying28 hi hz0 .i64 .i64 n2 n2 (by omega) (by omega) (by rw [hz2]; omega) (by omega)
    rw [this, hz1, Int.toNat_natCast, made_bytes, half_zero]
  obtain ⟨W1, hW1⟩ : ∃ W1, w.alloc (.cells (List.replicate n2 (B 0)).toArray 5) = W1 := ⟨_, rfl⟩
  have hg1 : W1.heap[w.heap.size]? = some (.cells (List.replicate n2 (B 0)).toArray 5) := by rw [← hW1, heap_alloc, if_pos rfl]
  have hF1 : Fr (fun _ => False) w W1 := by rw [← hW1]; exact Fr.alloc _ w _
  have hs1 : W1.heap.size = w.heap.size + 1 := by rw [← hW1]; exact size_alloc _ _
  rw [hW1] at hmk
  clear hW1
  obtain ⟨i8, hi8, hz80, hz81, hz82⟩ := info_parts Try.info5
  have hcp0 := Lib.run_copy_row_string (P := Try.prog) W1 28 9 3 5 w.heap.size 0 n2 n2 ⟨l.toArray⟩ _ _ Try.underlying28 (by rw [hi8]; simp [hz81]) hg1 (by rw [hsz]; omega) (by rw [hsz]; simp; omega)
  obtain ⟨W2, hW2⟩ : ∃ W2, W1.setRow w.heap.size ((List.replicate n2 (B 0)).toArray.toList.take 0 ++ Lib.byteCells (⟨l.toArray⟩ : ByteArray).data.toList ++ (List.replicate n2 (B 0)).toArray.toList.drop (0 + (⟨l.toArray⟩ : ByteArray).size)).toArray = W2 := ⟨_, rfl⟩
  rw [hW2, hsz] at hcp0
  have hcp : (Builtin.copy_ #[28, 9] 3 #[.slice (some ⟨w.heap.size, 0, none⟩) n2 n2, .string ⟨l.toArray⟩]).run Try.prog W1 = .ok (.int .i64 n) W2 := hcp0
  have hg2 : W2.heap[w.heap.size]? = some (.cells (l.map B ++ [B 0, B 0]).toArray 5) := by
    rw [← hW2]
    unfold World.setRow
    show (W1.heap.modify _ _)[w.heap.size]? = _
    rw [Array.getElem?_modify, if_pos rfl, hg1]
    have e1 : (List.replicate n2 (B 0)).drop (0 + n) = [B 0, B 0] := by rw [List.drop_replicate, show n2 - (0 + n) = 2 by omega]; rfl
    simp only [Option.map_some, hsz, List.take_zero, List.nil_append, e1]
    rfl
  have hF2 : Fr (fun k => k = w.heap.size) W1 W2 := by
    rw [← hW2]
    exact ⟨rfl, rfl, rfl, by simp [World.setRow], fun k _ hk => setRow_other W1 w.heap.size k _ hk⟩
  have hlm : (l.map B).length = n := by rw [List.length_map]; exact hn
  have x0 : W2.cell? ⟨w.heap.size, n, none⟩ = some (.int .u8 0) := by
    rw [cell_of_row W2 w.heap.size n _ _ (0, 0) hg2]
    rw [List.getElem?_toArray, List.getElem?_append_right (by omega), hlm, Nat.sub_self]
    rfl
  have x1 : W2.cell? ⟨w.heap.size, n1, none⟩ = some (.int .u8 0) := by
    rw [cell_of_row W2 w.heap.size n1 _ _ (0, 0) hg2]
    rw [List.getElem?_toArray, List.getElem?_append_right (by omega), hlm, show n1 - n = 1 by omega]
    rfl
  have z0 : W2.frozen? ⟨w.heap.size, n, none⟩ = false := by simp [World.frozen?, hg2]
  have z1 : W2.frozen? ⟨w.heap.size, n1, none⟩ = false := by simp [World.frozen?, hg2]
  have hne : ¬ n = n1 := by omega
  have hne' : ¬ n1 = n := by omega
  have hg3 : ((W2.setCell ⟨w.heap.size, n, none⟩ (.int .u8 165)).setCell ⟨w.heap.size, n1, none⟩ (.int .u8 165)).heap[w.heap.size]? = some (.cells (lentL l).toArray 5) := by
    rw [heap_setCell_same _ w.heap.size n1 _ _ _ (heap_setCell_same W2 w.heap.size n _ _ _ hg2)]
    congr 2
    rw [List.setIfInBounds_toArray, List.setIfInBounds_toArray, List.set_append_right _ _ (by omega), hlm, Nat.sub_self, List.set_append_right _ _ (by omega), hlm, show n1 - n = 1 by omega]
    rfl
  have hF3 : Fr (fun _ => False) w ((W2.setCell ⟨w.heap.size, n, none⟩ (.int .u8 165)).setCell ⟨w.heap.size, n1, none⟩ (.int .u8 165)) := by
    have hf := ((hF2.trans (Fr.setCell W2 ⟨w.heap.size, n, none⟩ (.int .u8 165)) (fun _ _ e => e)).trans (Fr.setCell _ ⟨w.heap.size, n1, none⟩ (.int .u8 165)) (fun _ _ e => e))
    exact ⟨hf.os.trans hF1.os, hf.tape.trans hF1.tape, hf.output.trans hF1.output, Nat.le_trans hF1.size hf.size, fun k hk _ => (hf.block k (by omega) (by omega)).trans (hF1.block k hk (fun e => e))⟩
  have HG3 := Hid.mk (And.intro hg3 hF3)
  have hs3 : ((W2.setCell ⟨w.heap.size, n, none⟩ (.int .u8 165)).setCell ⟨w.heap.size, n1, none⟩ (.int .u8 165)).heap.size = w.heap.size + 1 := by
    have : W2.heap.size = W1.heap.size := by rw [← hW2]; simp [World.setRow]
    simp only [World.setCell]
    simp
    omega
  have HS3 := Hid.mk hs3
  have hs2 : W2.heap.size = w.heap.size + 1 := by
    have : W2.heap.size = W1.heap.size := by rw [← hW2]; simp [World.setRow]
    omega
  have HS2 := Hid.mk hs2
  clear hs2
  obtain ⟨-, g2, -, -, -, -, fz, hwl⟩ := h.cell
  have g3 := hF3.cell g2 (fun e => e)
  have hwx : ¬ wb = w.heap.size := by omega
  have hwx' : ¬ w.heap.size = wb := by omega
  have f3 : ((W2.setCell ⟨w.heap.size, n, none⟩ (.int .u8 165)).setCell ⟨w.heap.size, n1, none⟩ (.int .u8 165)).heap[wb]? = w.heap[wb]? := hF3.block wb hwl (fun e => e)
  have hrow : ((W2.setCell ⟨w.heap.size, n, none⟩ (.int .u8 165)).setCell ⟨w.heap.size, n1, none⟩ (.int .u8 165)).ownsRow B0 28 1 vi ins.length ins := by
    have := ownsRow_keep h.rin (fun g hg => hF3.block g (World.ownsRow.lt h.rin g hg).2 (fun e => e))
    rwa [List.append_nil] at this
  have HR := Hid.mk (And.intro hrow f3)
  obtain ⟨ri, ci, hvi, -, -⟩ := ownsRow_len hrow
  obtain ⟨i0, hi0, hz0, hz1, hz2⟩ := info_parts Try.infoBys
  have HI := Hid.mk (And.intro hi0 (And.intro hz0 (And.intro hz1 hz2)))
  have HH := Hid.mk h
  clear h hW2 hg1 hF1 hF2 hg2 hg3 hF3 hrow f3 fz g2 hi8 hz80 hz81 hz82 hcp0 hi0 hz0 hz1 hz2 hs3 hs1
  subst hvi
  obtain ⟨x, hx⟩ : ∃ x : Value, x = .slice (some ⟨w.heap.size, 0, none⟩) n2 n2 := ⟨_, rfl⟩
  have HX := Hid.mk hx
  clear hx
  obtain ⟨W3, hW3⟩ : ∃ W3, (W2.setCell ⟨w.heap.size, n, none⟩ (.int .u8 165)).setCell ⟨w.heap.size, n1, none⟩ (.int .u8 165) = W3 := ⟨_, rfl⟩
  have HOA : Hid (∀ Ob : Obj, (((W2.setCell ⟨w.heap.size, n, none⟩ (.int .u8 165)).setCell ⟨w.heap.size, n1, none⟩ (.int .u8 165)).alloc Ob).ownsRow B0 28 1 (.slice ri ins.length ci) ins.length ins) := fun Ob => ownsRow_keep HR.out.1 (fun g hg => by rw [heap_alloc, if_neg (by have := (World.ownsRow.lt HR.out.1 g hg).2; omega)])
  have HRV : Hid (RdRow (((W2.setCell ⟨w.heap.size, n, none⟩ (.int .u8 165)).setCell ⟨w.heap.size, n1, none⟩ (.int .u8 165)).alloc (.cells #[.slice (some ⟨w.heap.size, 0, none⟩) n2 n2] 28)) 1 (.slice (some ⟨W2.heap.size, 0, none⟩) 1 1) 1 [.slice (some ⟨w.heap.size, 0, none⟩) n2 n2]) := by
    have e := HS2.out.trans HS3.out.symm
    show RdRow _ _ _ _ _
    rw [e]
    exact rdRow_val _ _ _
  have HBS : Hid (B0 ≤ (((W2.setCell ⟨w.heap.size, n, none⟩ (.int .u8 165)).setCell ⟨w.heap.size, n1, none⟩ (.int .u8 165)).alloc (.cells #[.slice (some ⟨w.heap.size, 0, none⟩) n2 n2] 28)).heap.size) := by
    show _ ≤ _
    rw [size_alloc, HS3.out]
    omega
  have HQ : Hid (∀ w4 : World, (((W2.setCell ⟨w.heap.size, n, none⟩ (.int .u8 165)).setCell ⟨w.heap.size, n1, none⟩ (.int .u8 165)).alloc (.cells #[.slice (some ⟨w.heap.size, 0, none⟩) n2 n2] 28)).grownBy w4 (Value.ownBlock (.slice ri ins.length ci)) → Fr (fun k => Value.ownBlock (.slice ri ins.length ci) = some k) w w4 ∧ w4.heap[wb]? = w.heap[wb]? ∧ w4.heap[w.heap.size]? = some (.cells (lentL l).toArray 5)) := by
    intro w4 hg4
    have hf4 := Fr.of_grown hg4
    have hfa := (HG3.out.2.mono (G := fun k => some k = Value.ownBlock (.slice ri ins.length ci)) (fun _ _ e => e.elim)).trans ((Fr.alloc (fun k => some k = Value.ownBlock (.slice ri ins.length ci)) _ _).trans hf4 (fun _ _ e => e)) (fun _ _ e => e)
    have hnw : ¬ some wb = Value.ownBlock (.slice ri ins.length ci) := fun e => by
      obtain ⟨cur, hc⟩ := obj_of_row HR.out.1 wb e.symm
      rw [HR.out.2, HH.out.blk] at hc
      simp at hc
    refine ⟨hfa.mono (fun k _ e => e.symm), hfa.block wb hwl hnw, ?_⟩
    have hlt : w.heap.size < ((W2.setCell ⟨w.heap.size, n, none⟩ (.int .u8 165)).setCell ⟨w.heap.size, n1, none⟩ (.int .u8 165)).heap.size := by rw [HS3.out]; omega
    rw [hf4.block w.heap.size (by rw [size_alloc]; omega) (fun e => by have := (World.ownsRow.lt HH.out.rin w.heap.size e.symm).2; omega), heap_alloc, if_neg (by omega)]
    exact HG3.out.1
  clear hW3 W3
  go_enter Try.func40, Try.ntmps40
  go_wp2_with (at_builtin; go_must (refine wpList_append_row rfl _ _ 64 rfl B0 28 i0 _ 1 24 und_byss HI.out.1 HI.out.2.1 HI.out.2.2.1 HI.out.2.2.2 rfl (by decide) (.slice ri ins.length ci) ins.length ins rfl (HOA.out _) (.slice (some ⟨W2.heap.size, 0, none⟩) 1 1) 1 [.slice (some ⟨w.heap.size, 0, none⟩) n2 n2] rfl HRV.out (by intro u hu; simp at hu; subst hu; rfl) (by unfold maxLen; omega) (by omega) HBS.out ?_); intro rb capb w4 hown4 hg4 hv4; have hq4 := HQ.out w4 hg4; have c4 : w4.cell? ⟨wb, 2, none⟩ = _ := cell_of_row w4 wb 2 _ _ (0, 0) (hq4.2.1.trans HH.out.blk); have y4 : w4.frozen? ⟨wb, 2, none⟩ = false := (by simp [World.frozen?, hq4.2.1.trans HH.out.blk]); replace hown4 := Hid.mk hown4; replace hq4 := Hid.mk hq4; clear hg4 hv4)
  go_ret
  have hf5 : Fr (fun k => k = wb) w4 (w4.setCell ⟨wb, 2, none⟩ (.slice rb (ins.length + 1) capb)) := Fr.setCell w4 ⟨wb, 2, none⟩ _
  have hb5 : w4.heap[wb]? = _ := hq4.out.2.1.trans HH.out.blk
  have hfr : Fr (fun k => k = wb ∨ Value.ownBlock (.slice ri ins.length ci) = some k) w (w4.setCell ⟨wb, 2, none⟩ (.slice rb (ins.length + 1) capb)) := (hq4.out.1.mono (fun _ _ e => Or.inr e)).trans (hf5.mono (G := fun k => k = wb ∨ Value.ownBlock (.slice ri ins.length ci) = some k) (fun _ _ e => Or.inl e)) (fun _ _ e => e)
  have hkeep : ∀ (g : Nat) (cur : Array Value) (t : TypeId), w.heap[g]? = some (.cells cur t) → t ≠ 67 → t ≠ 28 → (w4.setCell ⟨wb, 2, none⟩ (.slice rb (ins.length + 1) capb)).heap[g]? = w.heap[g]? := by
    intro g cur t hg h1 h2
    refine hfr.block g (Array.getElem?_eq_some_iff.1 hg).1 ?_
    rintro (e | e)
    · exact ne_obj hg HH.out.blk h1 e
    · obtain ⟨cur', hc⟩ := obj_of_row HH.out.rin g e
      rw [hg] at hc
      simp at hc
      exact h2 hc.2
  refine ⟨.slice rb (ins.length + 1) capb, ?_, ⟨?_, HH.out.bw, ?_, ?_, ?_, ?_, ?_⟩, ?_, ?_⟩
  · rw [hn, hn2]; rfl
  · rw [heap_setCell_same w4 wb 2 _ _ _ hb5]; rfl
  · rw [hn, hn2, List.length_append]
    refine ownsRow_keep hown4.out (fun g hg => hf5.block g (World.ownsRow.lt hown4.out g hg).2 (fun e => ?_))
    obtain ⟨cur, hc⟩ := obj_of_row hown4.out g hg
    rw [e, hb5] at hc
    simp at hc
  · exact ownsRow_keep HH.out.ror (fun g hg => by obtain ⟨cur, hc⟩ := obj_of_row HH.out.ror g hg; exact hkeep g cur _ hc (by decide) (by decide))
  · exact ownsRow_keep HH.out.rom (fun g hg => by obtain ⟨cur, hc⟩ := obj_of_row HH.out.rom g hg; exact hkeep g cur _ hc (by decide) (by decide))
  · exact fun v hv => (HH.out.ful v hv).keep (fun g cur hg => hkeep g cur _ hg (by decide) (by decide))
  · exact fun p hp => (HH.out.ink p hp).keep (fun g cur hg _ => hkeep g cur _ hg (by decide) (by decide))
  · rw [hf5.block w.heap.size (Nat.lt_of_lt_of_le (by have := (Array.getElem?_eq_some_iff.1 hq4.out.2.2).1; exact this) (Nat.le_refl _)) hwx']
    exact hq4.out.2.2
  · refine hfr.below hb ?_
    rintro k (e | e)
    · rw [e]; exact HH.out.bw
    · exact (World.ownsRow.lt HH.out.rin k e).1

end Go.Proofs.Ytphkchjejbffeaa
