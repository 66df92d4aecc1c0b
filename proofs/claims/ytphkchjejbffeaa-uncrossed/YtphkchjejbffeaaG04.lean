/- The law Uncrossed, out of what the calls do. -/
import Derived.Test.YtphkchjejbffeaaG03
import Derived.Test.YtphkchjejbffeaaRows
import Derived.ProofKit
import Derived.OpenShut
import Derived.ShutString
import Derived.ChangeOld
import Derived.Below
import Derived.SizedLaws
import Derived.Deep.Slices
namespace Go.Proofs.Ytphkchjejbffeaa
open Go.RowKit

theorem all3 (st : St) (h : st.stocks = 3) : st.all = st.book 0 ++ (st.book 1 ++ st.book 2) := by
  unfold St.all
  rw [h]
  simp [List.range_succ]

theorem Good.book {p n : Nat} {x : Run} (h : Good p n x) (s : Nat) (hs : s < 3) : BookOk s (x.st.book s) ∧ (x.st.book s).length ≤ 1000 := by
  refine ⟨⟨?_, ?_⟩, ?_⟩
  · intro i y hy
    have := book_each h.inv s y (List.mem_of_getElem? hy)
    rw [h.levels] at this
    exact this
  · intro i f q y hf hq hy
    exact book_pair h.inv s i f q y hf hq hy
  · have h1 := h.inv.room
    have h2 := h.inv.pool
    unfold St.resting at h1
    rw [all3 _ h.stocks] at h1
    simp only [List.length_append] at h1
    have : s = 0 ∨ s = 1 ∨ s = 2 := by omega
    rcases this with rfl | rfl | rfl <;> omega

theorem rests_good {At : World → Nat → (Nat → Prop) → St → Prop} (api : Api At) {hb b : Nat} {G : Nat → Prop} {vo vt : Value} {x : Run} {p n : Nat} (w : World)
    (hh : HouseOf At w hb b G vo vt x) (hg : Good p n x) :
    Calls Try.prog 19 #[.pointer (some ⟨hb, 0, none⟩)] w fun e w' => ∃ v, e = .returned (.tuple #[v, .bool true]) ∧
      w'.ownsRow w.heap.size 46 6 v x.st.resting (x.st.all.flatMap Ord.cells) ∧ Below w.heap.size w w' :=
  rests_any api hb b G vo vt x.st w hh.cell hh.at_ hg.stocks (fun s hs => (hg.book s hs).1) (fun s hs => (hg.book s hs).2)

theorem House.below {At : World → Nat → (Nat → Prop) → St → Prop} (api : Api At) {w w' : World} {hb b : Nat} {G : Nat → Prop} {vo vt : Value} {x : Run}
    (h : HouseOf At w hb b G vo vt x) (hB : Below w.heap.size w w') : HouseOf At w' hb b G vo vt x :=
  House.step h (api.below h.at_ hB) (Fr.of_below hB G) (fun _k hk => .inl hk)

set_option maxHeartbeats 1000000 in
theorem uncrossed_any {At : World → Nat → (Nat → Prop) → St → Prop} (api : Api At) (pool : Int) (v : Value) (l : List Act) (w : World) (h1 : -9223372036854775808 ≤ pool) (h2 : pool ≤ 9223372036854775807)
    (hl : ActsAt w v l) (hn : l.length ≤ 2600000000000) :
    Calls Try.prog 6 #[.int .i64 pool, v] w fun e w' => e = .returned (.bool true) ∧ Below w.heap.size w w' := by
  have HO := Hid.mk (open_any api pool w h1 h2)
  have hpk := pick_lt pool 64 (by omega)
  rcases hl with ⟨ra, rc, rfl, rfl⟩ | ⟨g, o, cap, rfl, hg, hlen, hcs⟩
  · go_enter Try.func6, Try.ntmps6
    go_wp2_with fail
    refine HO.out.mono ?_
    rintro e w1 ⟨hb, b, G, vo, vt, rfl, hh, hF, hB⟩
    have HN := Hid.mk hB
    clear hh hF hB
    go_wp2_with fail
    go_loopw [6, 7] (fun ok i wr => ok = .bool true ∧ i = .int .i64 0 ∧ wr = w1) (fun _ _ _ => 0)
    case atStart => exact ⟨rfl, rfl, rfl⟩
    case round =>
      obtain ⟨rfl, rfl, rfl⟩ := hrel
      go_wp2_with fail
      go_ret
      exact ⟨rfl, HN.out⟩
  · go_enter Try.func6, Try.ntmps6
    go_wp2_with fail
    refine HO.out.mono ?_
    rintro e w1 ⟨hb, b, G, vo, vt, rfl, hh, hF, hB⟩
    go_wp2_with fail
    go_loopw [6, 7] (fun ok i wr => ∃ (k : Nat) (G' : Nat → Prop) (vo' vt' : Value), k ≤ l.length ∧ ok = .bool true ∧ i = .int .i64 k ∧ HouseOf At wr hb b G' vo' vt' ((started pool).acts (l.take k)) ∧ (∀ j, HF hb G' vo' vt' j → w.heap.size ≤ j) ∧ Below w.heap.size w wr) (fun _ i _ => l.length - (intOf i).toNat)
    case atStart => exact ⟨0, G, vo, vt, Nat.zero_le _, rfl, rfl, hh, hF, hB⟩
    case round =>
      clear hh hF hB
      obtain ⟨k, G', vo', vt', hk, rfl, rfl, hh, hF, hB⟩ := hrel
      by_cases hlt : k < l.length
      · obtain ⟨a, hka⟩ : ∃ a, l[k]? = some a := ⟨_, List.getElem?_eq_getElem hlt⟩
        obtain ⟨hok, hca⟩ := hcs k a hka
        obtain ⟨d0, d1, d2, d3, d4, d5, d6⟩ := act_cells a (w := wr) (g := g) (o := o + k * 7) (fun j u hu => (hB.cell (p := ⟨g, o + k * 7 + j, none⟩) hg).trans (hca j u hu))
        have HS := Hid.mk ((started pool).acts_snoc l k a hka)
        have gd := Good.acts (l.take (k + 1)) (good_started pool)
        rw [HS.out] at gd
        have hls := gd.lens
        have hll : (l.take (k + 1)).length ≤ l.length := by simp; omega
        have hbig : big = 70368744177664 := rfl
        have HA := Hid.mk (act_any api hb b G' vo' vt' _ a wr hh hok (by rw [hbig]; omega) (by rw [hbig]; omega))
        have HN := Hid.mk (And.intro hh (And.intro hF hB))
        have HG := Hid.mk gd
        clear hh hF hB hcs hca hls hll hbig gd
        have i1 : (0 : Int) ≤ (k : Int) := by omega
        have i2 : (k : Int) < (l.length : Int) := by omega
        go_wp2_with fail
        refine HA.out.mono ?_
        rintro e w2 ⟨G2, vo2, vt2, rfl, hh2, hF2, hfr⟩
        obtain ⟨hh, hF, hB⟩ := HN.out
        have hF3 : ∀ j, HF hb G2 vo2 vt2 j → w.heap.size ≤ j := fun j hj => by
          rcases hF2 j hj with h | h
          · exact hF j h
          · have := hB.size; omega
        have hB3 : Below w.heap.size w w2 := hB.trans (hfr.below hB.size hF)
        have HP := Hid.mk (And.intro hh2 (And.intro hF3 hB3))
        clear hh2 hF2 hfr hh hF hB hF3 hB3
        go_wp2_with fail
        refine (rests_good api w2 HP.out.1 HG.out).mono ?_
        rintro e w3 ⟨vr, rfl, hown, hb3⟩
        obtain ⟨ra, capr, rfl, -, -⟩ := ownsRow_len hown
        have hh3 := House.below api HP.out.1 hb3
        obtain ⟨c0, -⟩ := cells3 hh3.cell
        have HQ := Hid.mk (And.intro hh3 hb3)
        clear hown hh3 hb3
        go_wp2_with fail
        refine (api.look b G2 _ w3 HQ.out.1.at_).mono ?_
        rintro e w4 ⟨rfl, hb4⟩
        rw [viewOf]
        have hrm : (((started pool).acts (l.take k)).act a).st.resting ≤ 1 + pick pool 64 := by
          have h3 := HG.out.inv.room
          rw [HG.out.pool] at h3
          exact h3
        have HR := Hid.mk (And.intro HQ.out.2 hb4)
        have HPP := Hid.mk (And.intro (HS.out ▸ (House.below api HQ.out.1 hb4)) HP.out.2)
        clear hb4 HQ HG HS HP
        generalize (((started pool).acts (l.take k)).act a).st.resting = r at *
        generalize (((started pool).acts (l.take k)).act a).st.time = tm at *
        generalize (((started pool).acts (l.take k)).act a).st.opn = on at *
        generalize (((started pool).acts (l.take k)).act a).st.part.length = pl at *
        have hr1 : (r : Int) ≤ 1 + (pick pool 64 : Nat) := by omega
        go_wp2_with (go_at_call 11; refine (pick_any _ _ _ h1 h2 (by decide) (by decide)).mono ?_; rintro e w' ⟨rfl, rfl⟩)
        obtain ⟨hh5, hF5, hB5⟩ := HPP.out
        obtain ⟨hb3, hb4⟩ := HR.out
        refine ⟨⟨k + 1, G2, vo2, vt2, by omega, rfl, by go_num, House.below api hh5 (Below.alloc (Below.refl _ _) (Nat.le_refl _) _), hF5, ?_⟩, by simp [intOf]; omega⟩
        have s3 := hb3.size
        have s4 := hb4.size
        have s5 := hB5.size
        exact ((hB5.trans (hb3.mono (by omega))).trans (hb4.mono (by omega))).alloc (by omega) _
      · have HN := Hid.mk hB
        clear hh hF hB hcs
        go_wp2_with fail
        go_ret
        exact ⟨rfl, HN.out⟩

end Go.Proofs.Ytphkchjejbffeaa

/- How the laws' arguments come in: acts in memory. -/
namespace Go.Proofs.Ytphkchjejbffeaa
open Go.ChangeShapes Go.WideShapes Go.ChangeAt Go.RowKit Go.Deep

theorem own : ownKnob Try.prog.godebug = none := by kernel_rfl
theorem laidOut : laidOutB Try.prog = true := by kernel_rfl
theorem Try.cells49 : Try.prog.cellsOf 49 = 7 := by kernel_rfl
theorem Try.cells3 : Try.prog.cellsOf 3 = 1 := by kernel_rfl
theorem Try.bytes49 : Try.prog.bytesOf 49 = 56 := by kernel_rfl

theorem list7 {α : Type} (l : List α) (h : l.length = 7) : ∃ a b c d e f g, l = [a, b, c, d, e, f, g] := by
  match l, h with
  | [a, b, c, d, e, f, g], _ => exact ⟨a, b, c, d, e, f, g, rfl⟩

theorem wf_i64 {x : Int} (h : (Lit.int .i64 x).wf = true) : I64 x := by
  simp [Lit.wf, IntKind.min, IntKind.max, IntKind.signed, IntKind.bits] at h
  unfold I64
  omega

theorem one_int {H : Type} {enc : TypeId × Value → H} {W : World} {base : Nat} {sp : Nat → Bool} {held : Bool} {n : Nat} {v : Value} {x : DataW H × List MemPlace}
    (h : DataW.trod enc Try.prog W base sp held n 3 [v] = some x) : ∃ y : Int, v = .int .i64 y ∧ I64 y := by
  obtain ⟨y, e, -, wy⟩ := DataW.trod_int Try.underlying3 h
  simp at e
  exact ⟨y, e, wf_i64 wy⟩

theorem open_act {H : Type} {enc : TypeId × Value → H} {W : World} {base : Nat} {sp : Nat → Bool} {held : Bool} {n : Nat} {cs : List Value} {x : DataW H × List MemPlace}
    (h : DataW.trod enc Try.prog W base sp held n 49 cs = some x) : ∃ a : Act, a.ok ∧ cs = a.cells.toList := by
  obtain ⟨xs, m, -, -, hl, hlen, hf⟩ := DataW.trod_struct Try.underlying49 h
  rw [Try.cells49] at hl
  obtain ⟨v0, v1, v2, v3, v4, v5, v6, rfl⟩ := list7 cs hl
  obtain ⟨y0, y1, y2, y3, y4, y5, y6, rfl⟩ := list7 xs hlen
  have f0 : DataW.trod enc Try.prog W base sp held m 3 (([v0, v1, v2, v3, v4, v5, v6].drop 0).take (Try.prog.cellsOf 3)) = some y0 := hf 0 _ rfl
  have f1 : DataW.trod enc Try.prog W base sp held m 3 (([v0, v1, v2, v3, v4, v5, v6].drop 1).take (Try.prog.cellsOf 3)) = some y1 := hf 1 _ rfl
  have f2 : DataW.trod enc Try.prog W base sp held m 3 (([v0, v1, v2, v3, v4, v5, v6].drop 2).take (Try.prog.cellsOf 3)) = some y2 := hf 2 _ rfl
  have f3 : DataW.trod enc Try.prog W base sp held m 3 (([v0, v1, v2, v3, v4, v5, v6].drop 3).take (Try.prog.cellsOf 3)) = some y3 := hf 3 _ rfl
  have f4 : DataW.trod enc Try.prog W base sp held m 3 (([v0, v1, v2, v3, v4, v5, v6].drop 4).take (Try.prog.cellsOf 3)) = some y4 := hf 4 _ rfl
  have f5 : DataW.trod enc Try.prog W base sp held m 3 (([v0, v1, v2, v3, v4, v5, v6].drop 5).take (Try.prog.cellsOf 3)) = some y5 := hf 5 _ rfl
  have f6 : DataW.trod enc Try.prog W base sp held m 3 (([v0, v1, v2, v3, v4, v5, v6].drop 6).take (Try.prog.cellsOf 3)) = some y6 := hf 6 _ rfl
  rw [Try.cells3] at f0 f1 f2 f3 f4 f5 f6
  obtain ⟨a0, rfl, b0⟩ := one_int (v := v0) f0
  obtain ⟨a1, rfl, b1⟩ := one_int (v := v1) f1
  obtain ⟨a2, rfl, b2⟩ := one_int (v := v2) f2
  obtain ⟨a3, rfl, b3⟩ := one_int (v := v3) f3
  obtain ⟨a4, rfl, b4⟩ := one_int (v := v4) f4
  obtain ⟨a5, rfl, b5⟩ := one_int (v := v5) f5
  obtain ⟨a6, rfl, b6⟩ := one_int (v := v6) f6
  exact ⟨⟨a0, a1, a2, a3, a4, a5, a6⟩, ⟨b0, b1, b2, b3, b4, b5, b6⟩, rfl⟩

theorem mapM_get {α β : Type} (f : α → Option β) : ∀ (l : List α) (r : List β), l.mapM f = some r → ∀ (i : Nat) (a : α), l[i]? = some a → ∃ b, r[i]? = some b ∧ f a = some b := by
  intro l
  induction l with
  | nil => intro r _ i a h; simp at h
  | cons x l ih =>
    intro r h i a hi
    rw [List.mapM_cons] at h
    cases hx : f x with
    | none => rw [hx] at h; cases h
    | some b =>
      rw [hx] at h
      cases hl : l.mapM f with
      | none => rw [hl] at h; cases h
      | some r' =>
        rw [hl] at h
        cases h
        cases i with
        | zero => simp at hi; subst hi; exact ⟨b, rfl, hx⟩
        | succ i => simp at hi; obtain ⟨c, h1, h2⟩ := ih r' hl i a hi; exact ⟨c, by simpa using h1, h2⟩

theorem add_add (a : Addr) (i j : Nat) : a.add (i + j) = (a.add i).add j := by
  obtain ⟨b, o, s⟩ := a
  by_cases hi : i = 0
  · subst hi; simp [Addr.add]
  · by_cases hj : j = 0
    · subst hj; simp [Addr.add]
    · simp only [Addr.add, if_neg hi, if_neg hj, if_neg (by omega : ¬ i + j = 0)]
      congr 1
      omega

theorem open_acts {H : Type} {enc : TypeId × Value → H} {W : World} {n : Nat} {a : Option Addr} {len cap : Nat} {x : DataW H × List MemPlace} {sp : Nat → Bool} {held : Bool}
    (h : DataW.trod enc Try.prog W 0 sp held n 40 [.slice a len cap] = some x) :
    ∃ l : List Act, ActsAt W (.slice a len cap) l ∧ ((l = [] ∧ x.1 = .nil) ∨ ∃ es spare, x.1 = .slice es spare ∧ es.length = l.length) := by
  rcases open_slice Try.underlying40 h with ⟨h1, h2⟩ | ⟨ad, len', cap', m, k, D, Pl, h1, h2, h3, h4, h5, h6, h7⟩
  · simp at h1
    obtain ⟨rfl, rfl, rfl⟩ := h1
    exact ⟨[], .inl ⟨_, _, rfl, rfl⟩, .inl ⟨rfl, by rw [h2]⟩⟩
  · simp at h1
    obtain ⟨rfl, rfl, rfl⟩ := h1
    have hm : len ≤ m := by rw [h5]; split <;> omega
    have hel : ∀ i, i < len → ∃ b : Act, b.ok ∧ ∀ j u, b.cells[j]? = some u → W.cell? (ad.add (i * 7 + j)) = some u := by
      intro i hi
      obtain ⟨cs, hc, ht⟩ := h7 i (by omega)
      obtain ⟨b, hb, rfl⟩ := open_act ht
      refine ⟨b, hb, ?_⟩
      intro j u hu
      rw [Try.cells49] at hc
      unfold World.cells? at hc
      rw [if_pos (Nat.zero_le _)] at hc
      have hj : j < 7 := by
        rcases Nat.lt_or_ge j 7 with h' | h'
        · exact h'
        · rw [Array.getElem?_eq_none (by simpa [Act.cells] using h')] at hu; cases hu
      obtain ⟨c, hc1, hc2⟩ := mapM_get _ _ _ hc j j (by rw [List.getElem?_range hj])
      have : c = u := by
        have hu' : b.cells.toList[j]? = some u := by simpa using hu
        rw [hu'] at hc1
        exact (Option.some.inj hc1).symm
      subst this
      rw [← hc2, add_add]
    rcases Nat.eq_zero_or_pos len with h0 | h0
    · subst h0
      exact ⟨[], .inl ⟨_, _, rfl, rfl⟩, .inr ⟨_, _, by rw [h6], by simp⟩⟩
    · have : Inhabited Act := ⟨⟨0, 0, 0, 0, 0, 0, 0⟩⟩
      obtain ⟨f, hf⟩ := choose_lt hel
      obtain ⟨blk, off, spot⟩ := ad
      have hsp : spot = none := by
        have := (hf 0 h0).2 0 _ rfl
        simpa [Addr.add] using World.cell?_spot this
      subst hsp
      have hblk : blk < W.heap.size := by
        have := (hf 0 h0).2 0 _ rfl
        simpa [Addr.add] using World.block_lt_of_cell? W _ this
      have hl : ((List.range len).map f).length = len := by simp
      refine ⟨(List.range len).map f, .inr ⟨blk, off, cap, by rw [hl], hblk, by rw [hl]; unfold maxLen at h4; omega, ?_⟩, .inr ⟨_, _, by rw [h6], by simp⟩⟩
      intro i b hb
      rw [List.getElem?_map, Option.map_eq_some_iff] at hb
      obtain ⟨i', hi', rfl⟩ := hb
      have hil : i < len := by
        rcases Nat.lt_or_ge i len with h' | h'
        · exact h'
        · rw [List.getElem?_eq_none (by simpa using h')] at hi'; cases hi'
      rw [List.getElem?_range hil] at hi'
      cases hi'
      refine ⟨(hf i hil).1, ?_⟩
      intro j u hu
      have := (hf i hil).2 j u hu
      rw [Addr.add_lit] at this
      rw [Nat.add_assoc]; exact this

end Go.Proofs.Ytphkchjejbffeaa

/- The law Uncrossed as it is stated, out of what the calls do. -/
namespace Go.Proofs.Ytphkchjejbffeaa
open Go.ChangeShapes Go.WideShapes Go.ChangeAt Go.RowKit

set_option maxRecDepth 100000 in
theorem uncrossed_lifted {At : World → Nat → (Nat → Prop) → St → Prop} (api : Api At) (os : Os) (started : os.Started) (H : Type) (enc : TypeId × Value → H) :
    ReturnsInHanded {} Try.checked os 6 .any (Rows.uncrossedSpec.pre6 enc Try.prog Try.f6 Rows.uncrossedRow.domain false) (Rows.uncrossedSpec.post enc Try.prog Try.f6 false true false false) := by
  refine returnsInHanded_of_change_sized (C := Try.checked) own started (by kernel_rfl) Try.func6
    (ChangeSpec.witness6 (enc := enc) (C := Try.checked) false ⟨#[], #[.int .i64 0, .slice none 0 0], []⟩ 8 (by kernel_rfl) (by kernel_rfl) (by kernel_rfl) (by kernel_rfl)) ?_
  intro W base args ds gs before hval0 hW hcnd hsz0 _
  have hval : ∀ (j : Nat) t v, Try.f6.params[j]? = some t → args[j]? = some v → Value.okWide Try.prog W .any base t v := hval0
  have hsz : (DataW.weightsEach Try.prog (Try.f6.params.toList ++ Rows.uncrossedSpec.plain.varTypes Try.prog) (ds ++ gs)).all (· ≤ reachBytes) = true := hsz0
  have hW' := hW
  obtain ⟨p, q, hA0, hV, rfl, hfz, hnd⟩ := hW
  have hA : DataW.TrodAll enc Try.prog W 0 (fun _ => true) true Try.f6.params.toList args.toList ds p := hA0
  rw [Try.params6] at hA hval hsz
  obtain ⟨v0, vs0, d0, ds0, p0, q0, hargs, rfl, rfl, h0, r0⟩ := trodAll_cons hA
  obtain ⟨v1, vs1, d1, ds1, p1, q1, rfl, rfl, rfl, h1, r1⟩ := trodAll_cons r0
  obtain ⟨rfl, rfl, rfl⟩ := trodAll_nil r1
  obtain rfl : args = #[v0, v1] := by cases args; simp_all
  obtain ⟨rfl, rfl⟩ := trodVars_none hV
  obtain ⟨pool, rfl, rfl, rfl, w0⟩ := open_int Try.underlying3 (hval 0 3 v0 rfl rfl) h0
  obtain ⟨a1, len1, cap1, rfl⟩ := okWide_slice Try.underlying40 (hval 1 40 v1 rfl rfl)
  have k1 := h1
  have lt1 : ∀ x ∈ p1, x.block < W.heap.size := by obtain ⟨m, hm⟩ := k1; exact DataW.trod_lt m _ _ _ hm
  obtain ⟨l, hl, hn⟩ : ∃ l : List Act, ActsAt W (.slice a1 len1 cap1) l ∧ l.length ≤ 2600000000000 := by
    obtain ⟨fuel, hf⟩ := h1
    obtain ⟨l, hl, hd⟩ := open_acts (by simpa [Value.cells] using hf)
    refine ⟨l, hl, ?_⟩
    rcases hd with ⟨rfl, -⟩ | ⟨es, sp, hd, hlen⟩
    · simp
    · simp only at hd
      subst hd
      have := sized_slice hsz (j := 1) (t := 40) (e := 49) rfl rfl Try.underlying40
      rw [Try.bytes49] at this
      simp only [reachBytes] at this
      omega
  have hw := wf_i64 w0
  clear hA0 hval0
  refine (uncrossed_any api pool _ l W hw.1 hw.2 hl hn).mono fun e W' ⟨he, bel⟩ => ?_
  subst he
  exact ⟨_, rfl, _, _, _, [], _, [], hW', trodAll_mk1 (shut_bool Try.underlying4 _), (trodAll_cons_mk (shut_int Try.underlying3 w0) (trodAll_cons_mk (Below.trod laidOut (by kernel_rfl) (of_decide_eq_true (by kernel_rfl)) k1 bel lt1) trodAll_mk0)), rfl, bel.frame _, fun h => by cases h⟩

theorem uncrossed_said {At : World → Nat → (Nat → Prop) → St → Prop} (api : Api At) : Rows.UncrossedSaid :=
  OpenClaim.holds_of_wide 6 Try.f6 rfl rfl rfl rfl rfl rfl rfl ⟨rfl, rfl, rfl, rfl, rfl⟩ rfl rfl rfl rfl rfl (by kernel_rfl) Try.func6 (by kernel_rfl)
    (of_decide_eq_true (by kernel_rfl)) (by unfold Func.isWrapper; first | (rw [if_pos (by decide +kernel)]; kernel_rfl) | (rw [if_neg (by decide +kernel)]; exact ⟨rfl, rfl⟩))
    (fun os started H enc _ => uncrossed_lifted api os started H enc)

end Go.Proofs.Ytphkchjejbffeaa

/- The walks of package field. -/
namespace Go.Proofs.Ytphkchjejbffeaa
open Go.RowKit

set_option maxRecDepth 100000 in
set_option maxHeartbeats 400000 in
theorem len64_32 (w : World) : Calls Try.prog 145 #[.int .u64 4294967295] w fun e w' => e = .returned (.int .i64 32) ∧ w' = w := by
  go_enter Try.func145, Try.ntmps145
  go_wp2
  go_ret
  refine ⟨?_, rfl⟩
  show Ending.returned (.int .i64 _) = _
  exact ret_int (by decide +kernel)
set_option maxRecDepth 100000 in
set_option maxHeartbeats 400000 in
theorem len64_16 (w : World) : Calls Try.prog 145 #[.int .u64 65535] w fun e w' => e = .returned (.int .i64 16) ∧ w' = w := by
  go_enter Try.func145, Try.ntmps145
  go_wp2
  go_ret
  refine ⟨?_, rfl⟩
  show Ending.returned (.int .i64 _) = _
  exact ret_int (by decide +kernel)
set_option maxRecDepth 100000 in
set_option maxHeartbeats 400000 in
theorem len64_8 (w : World) : Calls Try.prog 145 #[.int .u64 255] w fun e w' => e = .returned (.int .i64 8) ∧ w' = w := by
  go_enter Try.func145, Try.ntmps145
  go_wp2
  go_ret
  refine ⟨?_, rfl⟩
  show Ending.returned (.int .i64 _) = _
  exact ret_int (by decide +kernel)

theorem ones32 : IntKind.u64.wrap (bits BinOp.xor IntKind.u32 IntKind.u32.max 0) = 4294967295 := by decide +kernel
theorem ones16 : IntKind.u64.wrap (bits BinOp.xor IntKind.u16 IntKind.u16.max 0) = 65535 := by decide +kernel
theorem ones8 : IntKind.u64.wrap (bits BinOp.xor IntKind.u8 IntKind.u8.max 0) = 255 := by decide +kernel

set_option maxRecDepth 100000 in
set_option maxHeartbeats 400000 in
theorem width32 (w : World) : Calls Try.prog 122 #[] w fun e w' => e = .returned (.int .i64 4) ∧ w' = w := by
  go_enter Try.func122, Try.ntmps122
  go_wp2_with fail
  rw [ones32]
  refine (len64_32 w).mono ?_
  rintro e w' ⟨rfl, rfl⟩
  go_wp2
  go_ret
  exact ⟨rfl, rfl⟩
set_option maxRecDepth 100000 in
set_option maxHeartbeats 400000 in
theorem width16 (w : World) : Calls Try.prog 124 #[] w fun e w' => e = .returned (.int .i64 2) ∧ w' = w := by
  go_enter Try.func124, Try.ntmps124
  go_wp2_with fail
  rw [ones16]
  refine (len64_16 w).mono ?_
  rintro e w' ⟨rfl, rfl⟩
  go_wp2
  go_ret
  exact ⟨rfl, rfl⟩
set_option maxRecDepth 100000 in
set_option maxHeartbeats 400000 in
theorem width8 (w : World) : Calls Try.prog 123 #[] w fun e w' => e = .returned (.int .i64 1) ∧ w' = w := by
  go_enter Try.func123, Try.ntmps123
  go_wp2_with fail
  rw [ones8]
  refine (len64_8 w).mono ?_
  rintro e w' ⟨rfl, rfl⟩
  go_wp2
  go_ret
  exact ⟨rfl, rfl⟩

/-- Bytes were put behind others: v was l, v' is l'. -/
structure Puts (w w' : World) (v v' : Value) (l' : List UInt8) : Prop where
  own : Own w' 0 v' l'
  fr : Fr (fun k => v.ownBlock = some k) w w'
  at_ : v'.ownBlock = v.ownBlock ∨ ∃ g, v'.ownBlock = some g ∧ w.heap.size ≤ g

theorem Puts.refl {w : World} {v : Value} {l : List UInt8} (h : Own w 0 v l) : Puts w w v v l := ⟨h, Fr.refl _ _, .inl rfl⟩
theorem Puts.trans {a b c : World} {u v x : Value} {l m : List UInt8} (h : Puts a b u v l) (k : Puts b c v x m) : Puts a c u x m := by
  refine ⟨k.own, h.fr.trans k.fr ?_, ?_⟩
  · intro i hi hv
    rcases h.at_ with e | ⟨g, e, hg⟩
    · rw [← e]; exact hv
    · rw [e] at hv; cases hv; omega
  · rcases k.at_ with e | ⟨g, e, hg⟩
    · rcases h.at_ with e' | ⟨g, e', hg⟩
      · exact .inl (e.trans e')
      · exact .inr ⟨g, e.trans e', hg⟩
    · exact .inr ⟨g, e, Nat.le_trans h.fr.size hg⟩
theorem Puts.cast {w w' : World} {v v' : Value} {l l' : List UInt8} (h : Puts w w' v v' l) (e : l = l') : Puts w w' v v' l' := e ▸ h

theorem enc_take (n size j : Nat) (h : j < size) : (enc n size).take (j + 1) = (enc n size).take j ++ [UInt8.ofNat (n / 256 ^ (size - 1 - j))] := by
  have hl : j < (enc n size).length := by rw [enc_length]; exact h
  rw [List.take_succ_eq_append_getElem hl]
  congr 2
  have := enc_get n size (size - 1 - j) (by omega)
  rw [show size - 1 - (size - 1 - j) = j by omega, List.getElem?_eq_getElem hl] at this
  exact Option.some.inj this

theorem byte_of (n k : Nat) : (n : Int) / 2 ^ (8 * k) % 256 = ((UInt8.ofNat (n / 256 ^ k)).toNat : Int) := by
  have e : (2 : Int) ^ (8 * k) = ((256 ^ k : Nat) : Int) := by
    have h : (2 : Nat) ^ (8 * k) = 256 ^ k := by rw [Nat.pow_mul]
    rw [← h]; simp
  rw [UInt8.toNat_ofNat', e, ← Int.natCast_ediv]
  omega

/-- One append more. -/
theorem Puts.app {w wr w2 : World} {v x v2 : Value} {m l2 : List UInt8} {o : Obj} (h : Puts w wr v x m) (ho : Own w2 0 v2 l2) (hg : (wr.alloc o).grownBy w2 x.ownBlock)
    (hv : v2.ownBlock = x.ownBlock ∨ v2.ownBlock = some (wr.alloc o).heap.size) : Puts w w2 v v2 l2 := by
  refine h.trans ⟨ho, ?_, ?_⟩
  · exact (Fr.alloc _ wr o).trans (Fr.of_grown hg) (fun i _ e => e.symm)
  · rcases hv with e | e
    · exact .inl e
    · exact .inr ⟨_, e, by rw [size_alloc]; omega⟩

theorem own_alloc {w : World} {b : Nat} {v : Value} {l : List UInt8} (h : Own w b v l) (o : Obj) : Own (w.alloc o) b v l :=
  h.keep (fun g hg => by rw [heap_alloc, if_neg (by have := (Own.lt h g hg).2; omega)])

set_option maxRecDepth 100000 in
set_option maxHeartbeats 600000 in
theorem putLow64 (v : Value) (l : List UInt8) (n size : Nat) (w : World) (ho : Own w 0 v l) (_hn : n < 18446744073709551616) (hs : size ≤ 8) (hl : l.length + 8 ≤ 140737488355328) :
    Calls Try.prog 109 #[v, .int .u64 n, .int .i64 size] w fun e w' => ∃ v', e = .returned v' ∧ Puts w w' v v' (l ++ enc n size) := by
  go_enter Try.func109, Try.ntmps109
  go_wp2
  go_loopw [0, 7] (fun x i wr => ∃ j : Nat, j ≤ size ∧ i = .int .i64 ((size : Int) - 1 - j) ∧ Puts w wr v x (l ++ (enc n size).take j)) (fun _ i _ => (intOf i + 1).toNat)
  case atStart => exact ⟨0, by omega, by simp, by simpa using Puts.refl ho⟩
  case round =>
    obtain ⟨j, hj, rfl, hp⟩ := hrel
    have HP := Hid.mk hp
    clear hp
    by_cases hlt : j < size
    · have h1 : (0 : Int) ≤ (size : Int) - 1 - j := by omega
      have h2 : (size : Int) - 1 - j < 8 := by omega
      have hown := fun o : Obj => own_alloc HP.out.own o
      have HO := Hid.mk hown
      have hlen : (l ++ (enc n size).take j).length + 1 ≤ 140737488355328 := by
        rw [List.length_append, List.length_take, enc_length]; omega
      have HLen := Hid.mk hlen
      have HT := Hid.mk (enc_take n size j hlt)
      have HB := Hid.mk (byte_of n (size - 1 - j))
      clear hown hlen
      go_wp2_with (at_builtin; go_must (refine wpList_append_rd rfl _ _ rfl 0 _ (l ++ (enc n size).take j) rfl (HO.out _) _ [UInt8.ofNat (n / 256 ^ (size - 1 - j))] rfl (fun _ => False) (rd_one wr _ _ HB.out _ (fun h => h)) HLen.out (Nat.zero_le _) ?_); intro r2 n2 c2 w2 ho2 hg2 hv2)
      exact ⟨⟨j + 1, by omega, by go_num, by rw [HT.out, ← List.append_assoc]; exact HP.out.app ho2 hg2 hv2⟩, by simp [intOf]; omega⟩
    · go_wp2
      go_ret
      refine ⟨_, rfl, HP.out.cast ?_⟩
      rw [List.take_of_length_le (by rw [enc_length]; omega)]

set_option maxRecDepth 100000 in
set_option maxHeartbeats 600000 in
theorem putLow8 (v : Value) (l : List UInt8) (n size : Nat) (w : World) (ho : Own w 0 v l) (hn : n < 256) (hs : size ≤ 8) (hl : l.length + 8 ≤ 140737488355328) :
    Calls Try.prog 136 #[v, .int .u8 n, .int .i64 size] w fun e w' => ∃ v', e = .returned v' ∧ Puts w w' v v' (l ++ enc n size) := by
  go_enter Try.func136, Try.ntmps136
  go_wp2
  go_loopw [0, 7] (fun x i wr => ∃ j : Nat, j ≤ size ∧ i = .int .i64 ((size : Int) - 1 - j) ∧ Puts w wr v x (l ++ (enc n size).take j)) (fun _ i _ => (intOf i + 1).toNat)
  case atStart => exact ⟨0, by omega, by simp, by simpa using Puts.refl ho⟩
  case round =>
    obtain ⟨j, hj, rfl, hp⟩ := hrel
    have HP := Hid.mk hp
    clear hp
    by_cases hlt : j < size
    · have h1 : (0 : Int) ≤ (size : Int) - 1 - j := by omega
      have h2 : (size : Int) - 1 - j < 8 := by omega
      have hown := fun o : Obj => own_alloc HP.out.own o
      have HO := Hid.mk hown
      have hlen : (l ++ (enc n size).take j).length + 1 ≤ 140737488355328 := by
        rw [List.length_append, List.length_take, enc_length]; omega
      have HLen := Hid.mk hlen
      have HT := Hid.mk (enc_take n size j hlt)
      have HB := Hid.mk (byte_of n (size - 1 - j))
      clear hown hlen
      go_wp2_with (at_builtin; go_must (refine wpList_append_rd rfl _ _ rfl 0 _ (l ++ (enc n size).take j) rfl (HO.out _) _ [UInt8.ofNat (n / 256 ^ (size - 1 - j))] rfl (fun _ => False) (rd_one wr _ _ HB.out _ (fun h => h)) HLen.out (Nat.zero_le _) ?_); intro r2 n2 c2 w2 ho2 hg2 hv2)
      exact ⟨⟨j + 1, by omega, by go_num, by rw [HT.out, ← List.append_assoc]; exact HP.out.app ho2 hg2 hv2⟩, by simp [intOf]; omega⟩
    · go_wp2
      go_ret
      refine ⟨_, rfl, HP.out.cast ?_⟩
      rw [List.take_of_length_le (by rw [enc_length]; omega)]

set_option maxHeartbeats 400000 in
theorem put8 (v : Value) (l : List UInt8) (n : Nat) (w : World) (ho : Own w 0 v l) (hn : n < 256) (hl : l.length + 8 ≤ 140737488355328) :
    Calls Try.prog 110 #[v, .int .u8 n] w fun e w' => ∃ v', e = .returned v' ∧ Puts w w' v v' (l ++ enc n 1) := by
  have HA := Hid.mk (putLow8 v l n 1 w ho hn (by omega) hl)
  clear ho
  go_enter Try.func110, Try.ntmps110
  go_wp2_with (go_at_call 123; refine (width8 w).mono ?_; rintro e w' ⟨rfl, hw⟩; replace hw := hw.symm; subst hw)
  refine HA.out.mono ?_
  rintro e w1 ⟨v1, rfl, hp⟩
  have HP := Hid.mk hp
  clear hp
  go_wp2
  go_ret
  exact ⟨_, rfl, HP.out⟩

set_option maxRecDepth 100000 in
set_option maxHeartbeats 600000 in
theorem putLow16 (v : Value) (l : List UInt8) (n size : Nat) (w : World) (ho : Own w 0 v l) (hn : n < 65536) (hs : size ≤ 8) (hl : l.length + 8 ≤ 140737488355328) :
    Calls Try.prog 144 #[v, .int .u16 n, .int .i64 size] w fun e w' => ∃ v', e = .returned v' ∧ Puts w w' v v' (l ++ enc n size) := by
  go_enter Try.func144, Try.ntmps144
  go_wp2
  go_loopw [0, 7] (fun x i wr => ∃ j : Nat, j ≤ size ∧ i = .int .i64 ((size : Int) - 1 - j) ∧ Puts w wr v x (l ++ (enc n size).take j)) (fun _ i _ => (intOf i + 1).toNat)
  case atStart => exact ⟨0, by omega, by simp, by simpa using Puts.refl ho⟩
  case round =>
    obtain ⟨j, hj, rfl, hp⟩ := hrel
    have HP := Hid.mk hp
    clear hp
    by_cases hlt : j < size
    · have h1 : (0 : Int) ≤ (size : Int) - 1 - j := by omega
      have h2 : (size : Int) - 1 - j < 8 := by omega
      have hown := fun o : Obj => own_alloc HP.out.own o
      have HO := Hid.mk hown
      have hlen : (l ++ (enc n size).take j).length + 1 ≤ 140737488355328 := by
        rw [List.length_append, List.length_take, enc_length]; omega
      have HLen := Hid.mk hlen
      have HT := Hid.mk (enc_take n size j hlt)
      have HB := Hid.mk (byte_of n (size - 1 - j))
      clear hown hlen
      go_wp2_with (at_builtin; go_must (refine wpList_append_rd rfl _ _ rfl 0 _ (l ++ (enc n size).take j) rfl (HO.out _) _ [UInt8.ofNat (n / 256 ^ (size - 1 - j))] rfl (fun _ => False) (rd_one wr _ _ HB.out _ (fun h => h)) HLen.out (Nat.zero_le _) ?_); intro r2 n2 c2 w2 ho2 hg2 hv2)
      exact ⟨⟨j + 1, by omega, by go_num, by rw [HT.out, ← List.append_assoc]; exact HP.out.app ho2 hg2 hv2⟩, by simp [intOf]; omega⟩
    · go_wp2
      go_ret
      refine ⟨_, rfl, HP.out.cast ?_⟩
      rw [List.take_of_length_le (by rw [enc_length]; omega)]

set_option maxHeartbeats 400000 in
theorem put16 (v : Value) (l : List UInt8) (n : Nat) (w : World) (ho : Own w 0 v l) (hn : n < 65536) (hl : l.length + 8 ≤ 140737488355328) :
    Calls Try.prog 121 #[v, .int .u16 n] w fun e w' => ∃ v', e = .returned v' ∧ Puts w w' v v' (l ++ enc n 2) := by
  have HA := Hid.mk (putLow16 v l n 2 w ho hn (by omega) hl)
  clear ho
  go_enter Try.func121, Try.ntmps121
  go_wp2_with (go_at_call 124; refine (width16 w).mono ?_; rintro e w' ⟨rfl, hw⟩; replace hw := hw.symm; subst hw)
  refine HA.out.mono ?_
  rintro e w1 ⟨v1, rfl, hp⟩
  have HP := Hid.mk hp
  clear hp
  go_wp2
  go_ret
  exact ⟨_, rfl, HP.out⟩

set_option maxRecDepth 100000 in
set_option maxHeartbeats 600000 in
theorem putLow32 (v : Value) (l : List UInt8) (n size : Nat) (w : World) (ho : Own w 0 v l) (hn : n < 4294967296) (hs : size ≤ 8) (hl : l.length + 8 ≤ 140737488355328) :
    Calls Try.prog 138 #[v, .int .u32 n, .int .i64 size] w fun e w' => ∃ v', e = .returned v' ∧ Puts w w' v v' (l ++ enc n size) := by
  go_enter Try.func138, Try.ntmps138
  go_wp2
  go_loopw [0, 7] (fun x i wr => ∃ j : Nat, j ≤ size ∧ i = .int .i64 ((size : Int) - 1 - j) ∧ Puts w wr v x (l ++ (enc n size).take j)) (fun _ i _ => (intOf i + 1).toNat)
  case atStart => exact ⟨0, by omega, by simp, by simpa using Puts.refl ho⟩
  case round =>
    obtain ⟨j, hj, rfl, hp⟩ := hrel
    have HP := Hid.mk hp
    clear hp
    by_cases hlt : j < size
    · have h1 : (0 : Int) ≤ (size : Int) - 1 - j := by omega
      have h2 : (size : Int) - 1 - j < 8 := by omega
      have hown := fun o : Obj => own_alloc HP.out.own o
      have HO := Hid.mk hown
      have hlen : (l ++ (enc n size).take j).length + 1 ≤ 140737488355328 := by
        rw [List.length_append, List.length_take, enc_length]; omega
      have HLen := Hid.mk hlen
      have HT := Hid.mk (enc_take n size j hlt)
      have HB := Hid.mk (byte_of n (size - 1 - j))
      clear hown hlen
      go_wp2_with (at_builtin; go_must (refine wpList_append_rd rfl _ _ rfl 0 _ (l ++ (enc n size).take j) rfl (HO.out _) _ [UInt8.ofNat (n / 256 ^ (size - 1 - j))] rfl (fun _ => False) (rd_one wr _ _ HB.out _ (fun h => h)) HLen.out (Nat.zero_le _) ?_); intro r2 n2 c2 w2 ho2 hg2 hv2)
      exact ⟨⟨j + 1, by omega, by go_num, by rw [HT.out, ← List.append_assoc]; exact HP.out.app ho2 hg2 hv2⟩, by simp [intOf]; omega⟩
    · go_wp2
      go_ret
      refine ⟨_, rfl, HP.out.cast ?_⟩
      rw [List.take_of_length_le (by rw [enc_length]; omega)]

set_option maxHeartbeats 400000 in
theorem put32 (v : Value) (l : List UInt8) (n : Nat) (w : World) (ho : Own w 0 v l) (hn : n < 4294967296) (hl : l.length + 8 ≤ 140737488355328) :
    Calls Try.prog 115 #[v, .int .u32 n] w fun e w' => ∃ v', e = .returned v' ∧ Puts w w' v v' (l ++ enc n 4) := by
  have HA := Hid.mk (putLow32 v l n 4 w ho hn (by omega) hl)
  clear ho
  go_enter Try.func115, Try.ntmps115
  go_wp2_with (go_at_call 122; refine (width32 w).mono ?_; rintro e w' ⟨rfl, hw⟩; replace hw := hw.symm; subst hw)
  refine HA.out.mono ?_
  rintro e w1 ⟨v1, rfl, hp⟩
  have HP := Hid.mk hp
  clear hp
  go_wp2
  go_ret
  exact ⟨_, rfl, HP.out⟩

end Go.Proofs.Ytphkchjejbffeaa
