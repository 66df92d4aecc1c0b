/- The law Uncrossed, out of what the calls do. -/
import Derived.Test.YtphkchjejbffeaaG03
import Derived.Laws.IdiomStrings
import Derived.Laws.BytesArg
import Derived.Test.YtphkchjejbffeaaRows
import Derived.ProofKit
import Derived.OpenShut
import Derived.ShutString
import Derived.ChangeOld
import Derived.Below
import Derived.SizedLaws
import Derived.Deep.Slices
import Derived.JoinedCond
import Derived.ChangeMaps
namespace Go.Proofs.Ytphkchjejbffeaa
open Go.RowKit

theorem all3 (st : St) (h : st.stocks = 3) : st.all = st.book 0 ++ (st.book 1 ++ st.book 2) := by
  unfold St.all
  rw [h]
  simp [List.range_succ]

theorem Good.book {p n : Nat} {x : Run} (h : Good p n x) (s : Nat) (hs : s < 3) : BookOk s (x.st.book s) ∧ (x.st.book s).length ≤ 1000 := by
  refine ⟨⟨?_, ?_⟩, ?_⟩
  · intro i y hy
    have := book_each h.inv s y (List.mem_of_getElem? hy)
    rw [h.levels] at this
    exact this
  · intro i f q y hf hq hy
    exact book_pair h.inv s i f q y hf hq hy
  · have h1 := h.inv.room
    have h2 := h.inv.pool
    unfold St.resting at h1
    rw [all3 _ h.stocks] at h1
    simp only [List.length_append] at h1
    have : s = 0 ∨ s = 1 ∨ s = 2 := by omega
    rcases this with rfl | rfl | rfl <;> omega

theorem rests_good {At : World → Nat → (Nat → Prop) → St → Prop} (api : Api At) {hb b : Nat} {G : Nat → Prop} {vo vt : Value} {x : Run} {p n : Nat} (w : World)
    (hh : HouseOf At w hb b G vo vt x) (hg : Good p n x) :
    Calls Try.prog 19 #[.pointer (some ⟨hb, 0, none⟩)] w fun e w' => ∃ v, e = .returned (.tuple #[v, .bool true]) ∧
      w'.ownsRow w.heap.size 46 6 v x.st.resting (x.st.all.flatMap Ord.cells) ∧ Below w.heap.size w w' :=
  rests_any api hb b G vo vt x.st w hh.cell hh.at_ hg.stocks (fun s hs => (hg.book s hs).1) (fun s hs => (hg.book s hs).2)

theorem House.below {At : World → Nat → (Nat → Prop) → St → Prop} (api : Api At) {w w' : World} {hb b : Nat} {G : Nat → Prop} {vo vt : Value} {x : Run}
    (h : HouseOf At w hb b G vo vt x) (hB : Below w.heap.size w w') : HouseOf At w' hb b G vo vt x :=
  House.step h (api.below h.at_ hB) (Fr.of_below hB G) (fun _k hk => .inl hk)

set_option maxHeartbeats 1000000 in
theorem uncrossed_any {At : World → Nat → (Nat → Prop) → St → Prop} (api : Api At) (pool : Int) (v : Value) (l : List Act) (w : World) (h1 : -9223372036854775808 ≤ pool) (h2 : pool ≤ 9223372036854775807)
    (hl : ActsAt w v l) (hn : l.length ≤ 2600000000000) :
    Calls Try.prog 6 #[.int .i64 pool, v] w fun e w' => e = .returned (.bool true) ∧ Below w.heap.size w w' := by
  have HO := Hid.mk (open_any api pool w h1 h2)
  have hpk := pick_lt pool 64 (by omega)
  rcases hl with ⟨ra, rc, rfl, rfl⟩ | ⟨g, o, cap, rfl, hg, hlen, hcs⟩
  · go_enter Try.func6, Try.ntmps6
    go_wp2_with fail
    refine HO.out.mono ?_
    rintro e w1 ⟨hb, b, G, vo, vt, rfl, hh, hF, hB⟩
    have HN := Hid.mk hB
    clear hh hF hB
    go_wp2_with fail
    go_loopw [6, 7] (fun ok i wr => ok = .bool true ∧ i = .int .i64 0 ∧ wr = w1) (fun _ _ _ => 0)
    case atStart => exact ⟨rfl, rfl, rfl⟩
    case round =>
      obtain ⟨rfl, rfl, rfl⟩ := hrel
      go_wp2_with fail
      go_ret
      exact ⟨rfl, HN.out⟩
  · go_enter Try.func6, Try.ntmps6
    go_wp2_with fail
    refine HO.out.mono ?_
    rintro e w1 ⟨hb, b, G, vo, vt, rfl, hh, hF, hB⟩
    go_wp2_with fail
    go_loopw [6, 7] (fun ok i wr => ∃ (k : Nat) (G' : Nat → Prop) (vo' vt' : Value), k ≤ l.length ∧ ok = .bool true ∧ i = .int .i64 k ∧ HouseOf At wr hb b G' vo' vt' ((started pool).acts (l.take k)) ∧ (∀ j, HF hb G' vo' vt' j → w.heap.size ≤ j) ∧ Below w.heap.size w wr) (fun _ i _ => l.length - (intOf i).toNat)
    case atStart => exact ⟨0, G, vo, vt, Nat.zero_le _, rfl, rfl, hh, hF, hB⟩
    case round =>
      clear hh hF hB
      obtain ⟨k, G', vo', vt', hk, rfl, rfl, hh, hF, hB⟩ := hrel
      by_cases hlt : k < l.length
      · obtain ⟨a, hka⟩ : ∃ a, l[k]? = some a := ⟨_, List.getElem?_eq_getElem hlt⟩
        obtain ⟨hok, hca⟩ := hcs k a hka
        obtain ⟨d0, d1, d2, d3, d4, d5, d6⟩ := act_cells a (w := wr) (g := g) (o := o + k * 7) (fun j u hu => (hB.cell (p := ⟨g, o + k * 7 + j, none⟩) hg).trans (hca j u hu))
        have HS := Hid.mk ((started pool).acts_snoc l k a hka)
        have gd := Good.acts (l.take (k + 1)) (good_started pool)
        rw [HS.out] at gd
        have hls := gd.lens
        have hll : (l.take (k + 1)).length ≤ l.length := by simp; omega
        have hbig : big = 70368744177664 := rfl
        have HA := Hid.mk (act_any api hb b G' vo' vt' _ a wr hh hok (by rw [hbig]; omega) (by rw [hbig]; omega))
        have HN := Hid.mk (And.intro hh (And.intro hF hB))
        have HG := Hid.mk gd
        clear hh hF hB hcs hca hls hll hbig gd
        have i1 : (0 : Int) ≤ (k : Int) := by omega
        have i2 : (k : Int) < (l.length : Int) := by omega
        go_wp2_with fail
        refine HA.out.mono ?_
        rintro e w2 ⟨G2, vo2, vt2, rfl, hh2, hF2, hfr⟩
        obtain ⟨hh, hF, hB⟩ := HN.out
        have hF3 : ∀ j, HF hb G2 vo2 vt2 j → w.heap.size ≤ j := fun j hj => by
          rcases hF2 j hj with h | h
          · exact hF j h
          · have := hB.size; omega
        have hB3 : Below w.heap.size w w2 := hB.trans (hfr.below hB.size hF)
        have HP := Hid.mk (And.intro hh2 (And.intro hF3 hB3))
        clear hh2 hF2 hfr hh hF hB hF3 hB3
        go_wp2_with fail
        refine (rests_good api w2 HP.out.1 HG.out).mono ?_
        rintro e w3 ⟨vr, rfl, hown, hb3⟩
        obtain ⟨ra, capr, rfl, -, -⟩ := ownsRow_len hown
        have hh3 := House.below api HP.out.1 hb3
        obtain ⟨c0, -⟩ := cells3 hh3.cell
        have HQ := Hid.mk (And.intro hh3 hb3)
        clear hown hh3 hb3
        go_wp2_with fail
        refine (api.look b G2 _ w3 HQ.out.1.at_).mono ?_
        rintro e w4 ⟨rfl, hb4⟩
        rw [viewOf]
        have hrm : (((started pool).acts (l.take k)).act a).st.resting ≤ 1 + pick pool 64 := by
          have h3 := HG.out.inv.room
          rw [HG.out.pool] at h3
          exact h3
        have HR := Hid.mk (And.intro HQ.out.2 hb4)
        have HPP := Hid.mk (And.intro (HS.out ▸ (House.below api HQ.out.1 hb4)) HP.out.2)
        clear hb4 HQ HG HS HP
        generalize (((started pool).acts (l.take k)).act a).st.resting = r at *
        generalize (((started pool).acts (l.take k)).act a).st.time = tm at *
        generalize (((started pool).acts (l.take k)).act a).st.opn = on at *
        generalize (((started pool).acts (l.take k)).act a).st.part.length = pl at *
        have hr1 : (r : Int) ≤ 1 + (pick pool 64 : Nat) := by omega
        go_wp2_with (go_at_call 11; refine (pick_any _ _ _ h1 h2 (by decide) (by decide)).mono ?_; rintro e w' ⟨rfl, rfl⟩)
        obtain ⟨hh5, hF5, hB5⟩ := HPP.out
        obtain ⟨hb3, hb4⟩ := HR.out
        refine ⟨⟨k + 1, G2, vo2, vt2, by omega, rfl, by go_num, House.below api hh5 (Below.alloc (Below.refl _ _) (Nat.le_refl _) _), hF5, ?_⟩, by simp [intOf]; omega⟩
        have s3 := hb3.size
        have s4 := hb4.size
        have s5 := hB5.size
        exact ((hB5.trans (hb3.mono (by omega))).trans (hb4.mono (by omega))).alloc (by omega) _
      · have HN := Hid.mk hB
        clear hh hF hB hcs
        go_wp2_with fail
        go_ret
        exact ⟨rfl, HN.out⟩

end Go.Proofs.Ytphkchjejbffeaa

/- The law Shut, out of what the calls do. -/
namespace Go.Proofs.Ytphkchjejbffeaa
open Go.RowKit
attribute [local go_sem ↓] Go.wp_at_zero Go.wp_at_succ

theorem feed_closed (l : List UInt8) : ∀ st : St, st.opn = false → st.feed l = st := by
  induction l with
  | nil => intro st _; rfl
  | cons c l ih =>
    intro st h
    have : st.step c = st := by
      unfold St.step
      rw [if_neg (by rw [h]; decide)]
    show (st.step c).feed l = st
    rw [this]
    exact ih st h

/-- Closed. -/
def St.shutAt (st : St) : St := st.shut.told
theorem feed_letter (st : St) (c : UInt8) (ho : st.opn = true) (hp : st.part = []) (h1 : c ≠ 69) (h2 : c ≠ 82) (h3 : c ≠ 67) : st.feed [c] = st.shut := by
  have hs : sizeOf c = 1 := by unfold sizeOf; rw [if_neg h1, if_neg h2, if_neg h3]
  rw [feed_whole [c] st ho hp (by show 1 = sizeOf c; rw [hs]) (by simp)]
  unfold St.act
  have e : byteAt [c] 0 = c := rfl
  rw [e, if_neg h1, if_neg h2, if_neg h3]

theorem shut_ans (st : St) (h : st.ans = []) : st.shut.ans = 90 :: enc st.time 6 := by
  show st.ans ++ (90 :: enc st.time 6) = _
  rw [h]; rfl

theorem view_shut (st : St) (hp : st.part = []) : viewOf st.shut.told.told.taped = .agg #[.int .i64 st.time, .int .i64 st.resting, .bool false, .int .i64 0] := by
  show Value.agg #[.int .i64 st.time, .int .i64 st.resting, .bool false, .int .i64 st.part.length] = _
  rw [hp]; rfl

theorem rests_inv {At : World → Nat → (Nat → Prop) → St → Prop} (api : Api At) {hb b : Nat} {G : Nat → Prop} {vo vt : Value} {st : St} {out tape : List UInt8} (w : World)
    (hh : House At w hb b G vo vt st out tape) (hi : Inv st) (hs : st.stocks = 3) (hl : st.levels = 10) :
    Calls Try.prog 19 #[.pointer (some ⟨hb, 0, none⟩)] w fun e w' => ∃ v, e = .returned (.tuple #[v, .bool true]) ∧
      w'.ownsRow w.heap.size 46 6 v st.resting (st.all.flatMap Ord.cells) ∧ Below w.heap.size w w' := by
  have hbook : ∀ s, s < 3 → BookOk s (st.book s) ∧ (st.book s).length ≤ 1000 := by
    intro s hs'
    refine ⟨⟨?_, ?_⟩, ?_⟩
    · intro i y hy
      have := book_each hi s y (List.mem_of_getElem? hy)
      rw [hl] at this
      exact this
    · intro i f q y hf hq hy
      exact book_pair hi s i f q y hf hq hy
    · have h1 := hi.room
      have h2 := hi.pool
      unfold St.resting at h1
      rw [all3 _ hs] at h1
      simp only [List.length_append] at h1
      have : s = 0 ∨ s = 1 ∨ s = 2 := by omega
      rcases this with rfl | rfl | rfl <;> omega
  exact rests_any api hb b G vo vt st w hh.cell hh.at_ hs (fun s hs => (hbook s hs).1) (fun s hs => (hbook s hs).2)

theorem House.below' {At : World → Nat → (Nat → Prop) → St → Prop} (api : Api At) {w w' : World} {hb b : Nat} {G : Nat → Prop} {vo vt : Value} {st : St} {out tape : List UInt8}
    (h : House At w hb b G vo vt st out tape) (hB : Below w.heap.size w w') : House At w' hb b G vo vt st out tape :=
  h.step (api.below h.at_ hB) (Fr.of_below hB G) (fun _ hk => .inl hk)

/-- Acts in memory, in one form. -/
theorem ActsAt.form {w : World} {v : Value} {l : List Act} (h : ActsAt w v l) : ∃ ra rc, v = .slice ra l.length rc ∧ l.length ≤ 9223372036854775807 ∧
    ∀ (i : Nat) (a : Act), l[i]? = some a → a.ok ∧ ∃ g o, ra = some ⟨g, o, none⟩ ∧ g < w.heap.size ∧ ∀ (j : Nat) (u : Value), a.cells[j]? = some u → w.cell? ⟨g, o + i * 7 + j, none⟩ = some u := by
  rcases h with ⟨ra, rc, rfl, rfl⟩ | ⟨g, o, cap, rfl, h1, h2, h3⟩
  · exact ⟨ra, rc, rfl, by simp, fun i a h => by simp at h⟩
  · exact ⟨_, cap, rfl, h2, fun i a hi => ⟨(h3 i a hi).1, g, o, rfl, h1, (h3 i a hi).2⟩⟩

set_option maxRecDepth 100000 in
set_option maxHeartbeats 4000000 in
theorem shut_any {At : World → Nat → (Nat → Prop) → St → Prop} (api : Api At) (pool : Int) (v : Value) (l : List Act) (letter c : UInt8) (vm : Value) (more : List Act) (w : World) (h1 : -9223372036854775808 ≤ pool) (h2 : pool ≤ 9223372036854775807)
    (hl : ActsAt w v l) (hn : l.length ≤ 2600000000000) (hm : ActsAt w vm more)
    (hsel : (letter = 69 ∧ c = 101) ∨ (letter = 82 ∧ c = 101) ∨ (letter = 67 ∧ c = 101) ∨ ((letter ≠ 69 ∧ letter ≠ 82 ∧ letter ≠ 67) ∧ c = letter)) :
    Calls Try.prog 5 #[.int .i64 pool, v, .int .u8 letter.toNat, vm] w fun e w' => e = .returned (.bool true) ∧ Below w.heap.size w w' := by
  have gd := Good.acts l (good_started pool)
  rw [Nat.zero_add] at gd
  have hls := gd.lens
  have hbig : big = 70368744177664 := rfl
  have HA := Hid.mk (acts_any api pool v l w h1 h2 hl (by rw [hbig]; omega) (by rw [hbig]; omega))
  have hc : c ≠ 69 ∧ c ≠ 82 ∧ c ≠ 67 := by
    rcases hsel with ⟨-, rfl⟩ | ⟨-, rfl⟩ | ⟨-, rfl⟩ | ⟨h, rfl⟩
    · decide
    · decide
    · decide
    · exact h
  have HC := Hid.mk hc
  have HG := Hid.mk gd
  have HM := Hid.mk hm
  clear hl hn hls hbig gd hc hm
  generalize hX : (started pool).acts l = x at *
  have HX := Hid.mk hX
  clear hX
  have hbit : ∀ u : UInt8, letter ≠ u → (((letter.toNat : Int)) == (u.toNat : Int)) = false := by
    intro u hu
    rw [beq_eq_false_iff_ne]
    intro e
    exact hu (UInt8.toNat_inj.1 (by omega))
  have hsel' : (letter = 69 ∧ c = 101) ∨ (letter = 82 ∧ c = 101) ∨ (letter = 67 ∧ c = 101) ∨ ((((letter.toNat : Int)) == 69) = false ∧ (((letter.toNat : Int)) == 82) = false ∧ (((letter.toNat : Int)) == 67) = false ∧ c = letter) := by
    rcases hsel with h | h | h | ⟨h, h'⟩
    · exact .inl h
    · exact .inr (.inl h)
    · exact .inr (.inr (.inl h))
    · exact .inr (.inr (.inr ⟨hbit 69 h.1, hbit 82 h.2.1, hbit 67 h.2.2, h'⟩))
  clear hsel hbit
  have hcv : ∃ cv : Int, cv = (c.toNat : Int) ∧ ((letter = 69 ∧ cv = 101) ∨ (letter = 82 ∧ cv = 101) ∨ (letter = 67 ∧ cv = 101) ∨ ((((letter.toNat : Int)) == 69) = false ∧ (((letter.toNat : Int)) == 82) = false ∧ (((letter.toNat : Int)) == 67) = false ∧ cv = letter.toNat)) := by
    refine ⟨_, rfl, ?_⟩
    rcases hsel' with ⟨h, rfl⟩ | ⟨h, rfl⟩ | ⟨h, rfl⟩ | ⟨n1, n2, n3, rfl⟩
    · exact .inl ⟨h, rfl⟩
    · exact .inr (.inl ⟨h, rfl⟩)
    · exact .inr (.inr (.inl ⟨h, rfl⟩))
    · exact .inr (.inr (.inr ⟨n1, n2, n3, rfl⟩))
  obtain ⟨cv, hcv, hsel2⟩ := hcv
  have HCV := Hid.mk hcv
  clear hcv hsel'
  rcases hsel2 with ⟨rfl, rfl⟩ | ⟨rfl, rfl⟩ | ⟨rfl, rfl⟩ | ⟨n1, n2, n3, rfl⟩
  all_goals
    go_enter Try.func5, Try.ntmps5
    go_wp2_with fail
    refine HA.out.mono ?_
    rintro e w1 ⟨hb, b, G, vo, vt, rfl, hh, hF, hB⟩
    have HN := Hid.mk (And.intro hh (And.intro hF hB))
    clear hh hF hB
    go_wp2_with fail
    refine (rests_good api w1 HN.out.1 HG.out).mono ?_
    rintro e w2 ⟨vw, rfl, how, hb2⟩
    obtain ⟨rw_, cw, rfl, -, -⟩ := ownsRow_len how
    have hh2 := House.below api HN.out.1 hb2
    obtain ⟨d0, -⟩ := cells3 hh2.cell
    have HW := Hid.mk (And.intro how hb2)
    have HH2 := Hid.mk hh2
    clear how hb2 hh2
    have hbl : hb < w2.heap.size := (Array.getElem?_eq_some_iff.1 HH2.out.cell).1
    have hfl : x.st.feed [c] = x.st.shut := feed_letter x.st c HG.out.opn HG.out.part HC.out.1 HC.out.2.1 HC.out.2.2
    have hsa : x.st.shut.ans = 90 :: enc x.st.time 6 := shut_ans x.st HG.out.ans
    have hst : x.st.shut.tape = [] := HG.out.tape
    go_wp2_with fail
    have hbA := fun o : Obj => Below.alloc (Below.refl w2.heap.size w2) (Nat.le_refl _) o
    have hh2' := fun o : Obj => House.below' api HH2.out (hbA o)
    have hGl := api.lt HH2.out.at_
    refine (api.feed b G x.st _ [c] _ (hh2' _).at_ (rd_one w2 c _ HCV.out G (fun h => by have := hGl _ h; omega)) (by rw [hfl, hsa]; simp [enc_length, big]) (by rw [hfl, hst]; simp [big])).mono ?_
    rintro e w3 ⟨G3, rfl, hat3, hG3, hfr3⟩
    rw [hfl] at hat3
    have hh3 := (hh2' _).step hat3 hfr3 hG3
    obtain ⟨d1, -⟩ := cells3 hh3.cell
    have HS3 := Hid.mk (And.intro hh3 (And.intro hG3 (And.intro hfr3 hbA)))
    have HSA := Hid.mk (And.intro hsa hst)
    clear hh2' hGl hat3 hG3 hfr3 hh3 d0 hfl hsa hst hbA
    go_wp2_with fail
    refine (api.answers b G3 _ w3 HS3.out.1.at_).mono ?_
    rintro e w4 ⟨va, G4, rfl, hoa, hat4, hG4, hva, hfr4⟩
    have hh4 := HS3.out.1.step hat4 hfr4 hG4
    obtain ⟨d2, -⟩ := cells3 hh4.cell
    obtain ⟨ra, ca, rfl, -, -⟩ := hoa.len
    have HS4 := Hid.mk (And.intro hh4 (And.intro hG4 (And.intro hfr4 (And.intro hoa hva))))
    clear hat4 hG4 hfr4 hh4 hoa hva d1
    rw [show x.st.shut.ans.length = 7 from by rw [HSA.out.1]; simp [enc_length]]
    obtain ⟨rm, cm, rfl, hml, hmc⟩ := HM.out.form
    have HMC := Hid.mk hmc
    have hGw : ∀ k, G4 k → w.heap.size ≤ k := by
      intro k hk
      obtain ⟨-, hF, hB⟩ := HN.out
      obtain ⟨-, hb2⟩ := HW.out
      obtain ⟨-, hG3, hfr3, hbA⟩ := HS3.out
      have y1 := hB.size
      have y2 := hb2.size
      have y3 := hfr3.size
      rw [size_alloc] at y3 hG3
      rcases HS4.out.2.1 k hk with h | h
      · rcases hG3 k h with h | h
        · exact hF k (.inr (.inl h))
        · omega
      · omega
    have hBw4 : Below w.heap.size w w4 := by
      obtain ⟨-, hF, hB⟩ := HN.out
      obtain ⟨-, hb2⟩ := HW.out
      obtain ⟨-, hG3, hfr3, hbA⟩ := HS3.out
      obtain ⟨-, hG4, hfr4, -⟩ := HS4.out
      have y1 := hB.size
      have y2 := hb2.size
      have y3 := hfr3.size
      rw [size_alloc] at y3 hG3
      have a1 : Below w.heap.size w w2 := hB.trans (hb2.mono y1)
      have a3 : Below w.heap.size w w3 := Below.trans (a1.trans ((hbA _).mono (by omega))) (hfr3.below (by rw [size_alloc]; omega) (fun k h => hF k (.inr (.inl h))))
      refine a3.trans (hfr4.below (by omega) (fun k h => ?_))
      rcases hG3 k h with h | h
      · exact hF k (.inr (.inl h))
      · omega
    have HGW := Hid.mk (And.intro hGw hBw4)
    clear hmc hGw hBw4 HM HX d2
    go_wp2_with fail
    go_loopw [14] (fun i wr => ∃ (j : Nat) (G' : Nat → Prop), j ≤ more.length ∧ i = .int .i64 j ∧ House At wr hb b G' vo vt x.st.shut.told x.out x.tape ∧ (∀ k, G' k → G4 k ∨ w4.heap.size ≤ k) ∧ Fr G4 w4 wr) (fun i _ => more.length - (intOf i).toNat)
    case atStart => exact ⟨0, G4, Nat.zero_le _, rfl, HS4.out.1, fun k h => .inl h, Fr.refl _ _⟩
    case round =>
      obtain ⟨j, G', hj, rfl, hh, hG', hfr⟩ := hrel
      by_cases hlt : j < more.length
      · obtain ⟨a, hka⟩ : ∃ a, more[j]? = some a := ⟨_, List.getElem?_eq_getElem hlt⟩
        obtain ⟨hok, g, o, rfl, hg, hcs⟩ := HMC.out j a hka
        have hBr : Below w.heap.size w wr := HGW.out.2.trans (hfr.below HGW.out.2.size HGW.out.1)
        obtain ⟨d0, d1, d2, d3, d4, d5, d6⟩ := act_cells a (w := wr) (g := g) (o := o + j * 7) (fun t u hu => (hBr.cell (p := ⟨g, o + j * 7 + t, none⟩) hg).trans (hcs t u hu))
        obtain ⟨dh, -⟩ := cells3 hh.cell
        have hbr : hb < wr.heap.size := (Array.getElem?_eq_some_iff.1 hh.cell).1
        have hgr : g < wr.heap.size := Nat.lt_of_lt_of_le hg hBr.size
        have i1 : (0 : Int) ≤ (j : Int) := by omega
        have i2 : (j : Int) < (more.length : Int) := by omega
        have hcl : x.st.shut.told.feed a.message = x.st.shut.told := feed_closed _ _ rfl
        have hmsg := fun w => message_any a w hok
        generalize a.message = M at *
        obtain ⟨kind, token, other, side, stock, price, shares⟩ := a
        simp only [Act.cells] at *
        have HMsg := Hid.mk hmsg
        have nG : ¬ G' g := fun h => by
          rcases hG' g h with h | h
          · have := HGW.out.1 g h; omega
          · have := HGW.out.2.size; omega
        have nH := hh.hG
        have hat := api.keep (w' := wr.drew) hh.at_ (fun k hk => rfl)
        have ltG := api.lt hh.at_
        have HL := Hid.mk (And.intro hh (And.intro hG' (And.intro hfr hcl)))
        clear hmsg hh hG' hfr hcl hBr hcs hka
        go_wp2_with fail
        go_region_held3 (fun w' => w'.cell? ⟨hb, 0, none⟩ = some (.pointer (some ⟨b, 0, none⟩)) ∧ w'.cell? ⟨g, o + j * 7, none⟩ = some (.int .i64 kind) ∧ w'.cell? ⟨g, o + j * 7 + 1, none⟩ = some (.int .i64 token) ∧ w'.cell? ⟨g, o + j * 7 + 2, none⟩ = some (.int .i64 other) ∧ w'.cell? ⟨g, o + j * 7 + 3, none⟩ = some (.int .i64 side) ∧ w'.cell? ⟨g, o + j * 7 + 4, none⟩ = some (.int .i64 stock) ∧ w'.cell? ⟨g, o + j * 7 + 5, none⟩ = some (.int .i64 price) ∧ w'.cell? ⟨g, o + j * 7 + 6, none⟩ = some (.int .i64 shares))
          (first | exact m1 | exact p1 | go_keep)
          (first
            | (go_at_call 21; refine (HMsg.out _).mono ?_; rintro e w5 ⟨v5, rfl, hov, hb5⟩; have p1 : w5.cell? ⟨hb, 0, none⟩ = some (.pointer (some ⟨b, 0, none⟩)) ∧ w5.cell? ⟨g, o + j * 7, none⟩ = some (.int .i64 kind) ∧ w5.cell? ⟨g, o + j * 7 + 1, none⟩ = some (.int .i64 token) ∧ w5.cell? ⟨g, o + j * 7 + 2, none⟩ = some (.int .i64 other) ∧ w5.cell? ⟨g, o + j * 7 + 3, none⟩ = some (.int .i64 side) ∧ w5.cell? ⟨g, o + j * 7 + 4, none⟩ = some (.int .i64 stock) ∧ w5.cell? ⟨g, o + j * 7 + 5, none⟩ = some (.int .i64 price) ∧ w5.cell? ⟨g, o + j * 7 + 6, none⟩ = some (.int .i64 shares) := ⟨(hb5.cell (p := ⟨hb, 0, none⟩) hbr).trans dh, (hb5.cell (p := ⟨g, o + j * 7, none⟩) hgr).trans d0, (hb5.cell (p := ⟨g, o + j * 7 + 1, none⟩) hgr).trans d1, (hb5.cell (p := ⟨g, o + j * 7 + 2, none⟩) hgr).trans d2, (hb5.cell (p := ⟨g, o + j * 7 + 3, none⟩) hgr).trans d3, (hb5.cell (p := ⟨g, o + j * 7 + 4, none⟩) hgr).trans d4, (hb5.cell (p := ⟨g, o + j * 7 + 5, none⟩) hgr).trans d5, (hb5.cell (p := ⟨g, o + j * 7 + 6, none⟩) hgr).trans d6⟩; have hat5 := api.below hat hb5)
            | (go_at_call 12; refine (api.feed b G' _ v5 M _ hat5 (hov.rd (fun g hg h => by have := ltG _ h; have := (hov.lt g hg).1; change wr.heap.size ≤ g at this; omega)) (by rw [HL.out.2.2.2]; exact Nat.zero_le _) (by rw [HL.out.2.2.2]; show x.st.shut.tape.length ≤ big; rw [HSA.out.2]; exact Nat.zero_le _)).mono ?_; rintro e w6 ⟨G6, rfl, hat6, hG6, hfr6⟩; have m1 : w6.cell? ⟨hb, 0, none⟩ = some (.pointer (some ⟨b, 0, none⟩)) ∧ w6.cell? ⟨g, o + j * 7, none⟩ = some (.int .i64 kind) ∧ w6.cell? ⟨g, o + j * 7 + 1, none⟩ = some (.int .i64 token) ∧ w6.cell? ⟨g, o + j * 7 + 2, none⟩ = some (.int .i64 other) ∧ w6.cell? ⟨g, o + j * 7 + 3, none⟩ = some (.int .i64 side) ∧ w6.cell? ⟨g, o + j * 7 + 4, none⟩ = some (.int .i64 stock) ∧ w6.cell? ⟨g, o + j * 7 + 5, none⟩ = some (.int .i64 price) ∧ w6.cell? ⟨g, o + j * 7 + 6, none⟩ = some (.int .i64 shares) := ⟨hfr6.cell p1.1 nH, hfr6.cell p1.2.1 nG, hfr6.cell p1.2.2.1 nG, hfr6.cell p1.2.2.2.1 nG, hfr6.cell p1.2.2.2.2.1 nG, hfr6.cell p1.2.2.2.2.2.1 nG, hfr6.cell p1.2.2.2.2.2.2.1 nG, hfr6.cell p1.2.2.2.2.2.2.2 nG⟩))
        obtain ⟨hh, hG', hfr, hcl⟩ := HL.out
        rw [hcl] at hat6
        have hF6 : Fr G' wr w6 := ((Fr.drew G' wr).then (Fr.of_below hb5 G')).then hfr6
        have z5 : wr.heap.size ≤ w5.heap.size := hb5.size
        have z4 := hfr.size
        have hh6 := hh.step hat6 hF6 (fun k hk => by
          rcases hG6 k hk with h | h
          · exact .inl h
          · right; omega)
        have hG7 : ∀ k, G6 k → G4 k ∨ w4.heap.size ≤ k := fun k hk => by
          rcases hG6 k hk with h | h
          · exact hG' k h
          · right; omega
        have hF7 : Fr G4 w4 w6 := hfr.trans hF6 (fun k hk h => by
          rcases hG' k h with h | h
          · exact h
          · omega)
        have HP := Hid.mk (And.intro hh6 (And.intro hG7 hF7))
        clear hh hG' hfr hcl hat6 hF6 z5 z4 hh6 hG7 hF7 hG6 hfr6 hat5 hb5 hov hat ltG nG nH HL HMsg d0 d1 d2 d3 d4 d5 d6 dh p1 m1
        go_wp2_with fail
        exact ⟨⟨j + 1, G6, by omega, by go_num, HP.out.1, HP.out.2.1, HP.out.2.2⟩, by simp [intOf]; omega⟩
      · obtain ⟨dh, -⟩ := cells3 hh.cell
        have HL := Hid.mk (And.intro hh (And.intro hG' hfr))
        clear hh hG' hfr
        go_wp2_with fail
        refine (api.answers b G' _ wr HL.out.1.at_).mono ?_
        rintro e w5 ⟨v5, G5, rfl, ho5, hat5, hG5, hv5, hfr5⟩
        have hh5 := HL.out.1.step hat5 hfr5 hG5
        obtain ⟨d5, -⟩ := cells3 hh5.cell
        obtain ⟨r5, c5, rfl, -, -⟩ := ho5.len
        rw [show x.st.shut.told.ans.length = 0 from rfl]
        have HL5 := Hid.mk (And.intro hh5 (And.intro hG5 hfr5))
        clear ho5 hat5 hG5 hv5 hfr5 hh5 dh
        go_wp2_with fail
        refine (api.tape b G5 _ w5 HL5.out.1.at_).mono ?_
        rintro e w6 ⟨v6, G6, rfl, ho6, hat6, hG6, hv6, hfr6⟩
        have hh6 := HL5.out.1.step hat6 hfr6 hG6
        obtain ⟨r6, c6, rfl, -, -⟩ := ho6.len
        rw [show x.st.shut.told.told.tape.length = 0 from by show x.st.shut.tape.length = 0; rw [HSA.out.2]; rfl]
        have HL6 := Hid.mk (And.intro hh6 (And.intro hG6 hfr6))
        clear ho6 hat6 hG6 hv6 hfr6 hh6 d5
        go_wp2_with fail
        have hinv : Inv x.st.shut.told.told.taped := (((HG.out.inv.of_q (st' := x.st.shut) rfl rfl rfl rfl (fun _ h => h) HG.out.inv.refs HG.out.inv.mats HG.out.inv.time).told).told).taped
        refine (rests_inv api w6 HL6.out.1 hinv HG.out.stocks HG.out.levels).mono ?_
        rintro e w7 ⟨v7, rfl, ho7, hb7⟩
        obtain ⟨r7, c7, rfl, -, -⟩ := ownsRow_len ho7
        rw [show x.st.shut.told.told.taped.resting = x.st.all.length from rfl]
        have hh7 := House.below' api HL6.out.1 hb7
        obtain ⟨d7, -⟩ := cells3 hh7.cell
        have HL7 := Hid.mk (And.intro hh7 (And.intro ho7 hb7))
        clear ho7 hb7 hh7 hinv
        go_wp2_with fail
        refine (api.look b G6 _ w7 HL7.out.1.at_).mono ?_
        rintro e w8 ⟨rfl, hb8⟩
        rw [view_shut x.st HG.out.part]
        have htm : x.st.time < 281474976710656 := HG.out.inv.time
        have HNum : Hid (num (enc x.st.time 6) 0 = x.st.time) := by
          show _ = _
          rw [num_enc]; exact Nat.mod_eq_of_lt htm
        have keep : ∀ k, k < w4.heap.size → ¬ G4 k → w8.heap[k]? = w4.heap[k]? := by
          intro k hk hn
          obtain ⟨-, hG', hfr⟩ := HL.out
          obtain ⟨-, hG5, hfr5⟩ := HL5.out
          obtain ⟨-, hG6, hfr6⟩ := HL6.out
          obtain ⟨-, -, hb7⟩ := HL7.out
          have y1 := hfr.size
          have y2 := hfr5.size
          have y3 := hfr6.size
          have y4 := hb7.size
          have n1 : ¬ G' k := fun h => by
            rcases hG' k h with h | h
            · exact hn h
            · omega
          have n2 : ¬ G5 k := fun h => by
            rcases hG5 k h with h | h
            · exact n1 h
            · omega
          rw [hb8.block k (by omega), hb7.block k (by omega), hfr6.block k (by omega) n2, hfr5.block k (by omega) n1, hfr.block k hk hn]
        have hsz8 : w4.heap.size ≤ w8.heap.size := by
          obtain ⟨-, -, hfr⟩ := HL.out
          obtain ⟨-, -, hfr5⟩ := HL5.out
          obtain ⟨-, -, hfr6⟩ := HL6.out
          obtain ⟨-, -, hb7⟩ := HL7.out
          have y1 := hfr.size
          have y2 := hfr5.size
          have y3 := hfr6.size
          have y4 := hb7.size
          have y5 := hb8.size
          omega
        obtain ⟨ga, hra, hgal, hAl⟩ : ∃ ga, ra = some ⟨ga, 0, none⟩ ∧ ga < w8.heap.size ∧ Lies w8 ga 0 (90 :: enc x.st.time 6) := by
          obtain ⟨-, -, -, hoa, hva⟩ := HS4.out
          have hoa8 : Own w8 0 (.slice ra x.st.shut.ans.length ca) x.st.shut.ans := hoa.keep (fun g hg => keep g (hoa.lt g hg).2 (hva g hg).2)
          rcases hoa8.rd (F := fun _ => False) (fun _ _ h => h) with ⟨-, h⟩ | ⟨g, o, cap, h, hl, -, -, -, hgl⟩
          · rw [HSA.out.1] at h; cases h
          · rcases hoa8.2 with ⟨-, h'⟩ | ⟨g', cap', cur', h', -⟩
            · rw [HSA.out.1] at h'; simp at h'
            · simp only [Value.slice.injEq] at h h'
              rw [h'.1] at h
              simp only [Option.some.injEq, Addr.mk.injEq] at h
              obtain ⟨⟨rfl, rfl, -⟩, -⟩ := h
              rw [HSA.out.1] at hl
              exact ⟨_, h'.1, hgl, hl⟩
        subst hra
        have hca : 7 ≤ ca := by
          obtain ⟨-, -, -, hoa, -⟩ := HS4.out
          rcases hoa.2 with ⟨h', -⟩ | ⟨g', cap', cur', h', -, -, hle, -⟩
          · simp at h'
          · simp only [Value.slice.injEq] at h'
            rw [← h'.2.2, HSA.out.1] at hle
            simpa [enc_length] using hle
        have hwas : w8.ownsRow 0 46 6 (.slice rw_ x.st.resting cw) x.st.resting (x.st.all.flatMap Ord.cells) := by
          obtain ⟨how, hb2⟩ := HW.out
          obtain ⟨-, hG3, hfr3, -⟩ := HS3.out
          obtain ⟨-, hG4, hfr4, -⟩ := HS4.out
          obtain ⟨hh1, -, -⟩ := HN.out
          rw [size_alloc] at hG3
          have y3 := hfr3.size
          rw [size_alloc] at y3
          have y4 := hfr4.size
          refine ownsRow_base (ownsRow_keep how (fun g hg => ?_)) (Nat.zero_le _)
          obtain ⟨hg1, hg2⟩ := how.lt g hg
          have n0 : ¬ G g := fun h => by have := api.lt hh1.at_ g h; omega
          have n3 : ¬ G3 g := fun h => by
            rcases hG3 g h with h | h
            · exact n0 h
            · omega
          have n4 : ¬ G4 g := fun h => by
            rcases hG4 g h with h | h
            · exact n3 h
            · omega
          rw [keep g (by omega) n4, hfr4.block g (by omega) n3, hfr3.block g (by rw [size_alloc]; omega) n0, heap_alloc, if_neg (by omega)]
        have his : w8.ownsRow 0 46 6 (.slice r7 x.st.resting c7) x.st.resting (x.st.all.flatMap Ord.cells) := by
          obtain ⟨-, ho7, hb7⟩ := HL7.out
          exact ownsRow_base (ownsRow_keep ho7 (fun g hg => hb8.block g (ho7.lt g hg).2)) (Nat.zero_le _)
        have hBw : Below w.heap.size w w8 := by
          obtain ⟨hGw, hBw4⟩ := HGW.out
          obtain ⟨-, hG', hfr⟩ := HL.out
          obtain ⟨-, hG5, hfr5⟩ := HL5.out
          obtain ⟨-, hG6, hfr6⟩ := HL6.out
          obtain ⟨-, -, hb7⟩ := HL7.out
          have y0 := hBw4.size
          have y1 := hfr.size
          have y2 := hfr5.size
          have y3 := hfr6.size
          have y4 := hb7.size
          have g1 : ∀ k, G' k → w.heap.size ≤ k := fun k h => by
            rcases hG' k h with h | h
            · exact hGw k h
            · omega
          have g2 : ∀ k, G5 k → w.heap.size ≤ k := fun k h => by
            rcases hG5 k h with h | h
            · exact g1 k h
            · omega
          exact ((((hBw4.trans (hfr.below y0 hGw)).trans (hfr5.below (by omega) g1)).trans (hfr6.below (by omega) g2)).trans (hb7.mono (by omega))).trans (hb8.mono (by omega))
        have HF8 := Hid.mk (And.intro hwas (And.intro his hBw))
        have a0 : w8.cell? ⟨ga, 0, none⟩ = some (.int .u8 90) := hAl 0 90 rfl
        have HAl := Hid.mk hAl
        clear keep hsz8 hAl hwas his hBw hb8 d7 htm
        generalize x.st.time = tm at *
        have hLl : x.st.all.length ≤ 64 := by
          have q1 := HG.out.inv.room
          have q2 := HG.out.inv.pool
          unfold St.resting at q1
          omega
        rw [show x.st.resting = x.st.all.length from rfl] at *
        have HF9 : Hid (w8.ownsRow 0 46 6 (.slice rw_ x.st.all.length cw) x.st.all.length (x.st.all.flatMap Ord.cells) ∧ w8.ownsRow 0 46 6 (.slice r7 x.st.all.length c7) x.st.all.length (x.st.all.flatMap Ord.cells) ∧ Below w.heap.size w w8) := HF8
        clear HF8 HW HL7 HL6 HL5 HL HS4 HS3 HH2 HN HA HMC HGW
        generalize x.st.all = L at *
        go_wp2_with fail
        have hval : ∀ n, Calls Try.prog 16 #[.slice (some ⟨ga, 1, none⟩) 6 (ca - 1)] (((w8.alloc (.cells #[.int .i64 tm, .int .i64 L.length, .bool false, .int .i64 0] 37))).drewN n) fun e w' => e = .returned (.int .i64 tm) ∧ w' = ((w8.alloc (.cells #[.int .i64 tm, .int .i64 L.length, .bool false, .int .i64 0] 37))).drewN n := by
          intro n
          have hl : Lies (((w8.alloc (.cells #[.int .i64 tm, .int .i64 L.length, .bool false, .int .i64 0] 37))).drewN n) ga 1 (enc tm 6) := by
            have h1 := (HAl.out.drop 1).keep (w' := ((w8.alloc (.cells #[.int .i64 tm, .int .i64 L.length, .bool false, .int .i64 0] 37))).drewN n) (by
              show (w8.alloc _).heap[ga]? = _
              rw [heap_alloc, if_neg (by omega)])
            exact h1
          have := val_any ga 1 (ca - 1) (enc tm 6) _ (by rw [enc_length]; omega) hl
          rw [enc_length, HNum.out] at this
          exact this
        have HVal := Hid.mk hval
        clear hval
        have j1 : (1 : Int) ≤ 7 := by omega
        have j2 : (7 : Int) ≤ (ca : Int) := by omega
        go_quiet ((go_at_call 16; exact Calls.quiet_of_same (HVal.out _)))
        go_wp2_with fail
        go_loopw [20] (fun i w9 => ∃ k : Nat, k ≤ L.length ∧ i = .int .i64 k ∧ Below w8.heap.size w8 w9) (fun i _ => L.length - (intOf i).toNat)
        case atStart => exact ⟨0, Nat.zero_le _, rfl, below_drewN ((Below.refl _ _).alloc (Nat.le_refl _) _) _⟩
        case round =>
          obtain ⟨k, hk, rfl, hB9⟩ := hrel
          by_cases hkl : k < L.length
          · obtain ⟨hw1, hw2, -⟩ := HF9.out
            obtain ⟨g1, rfl, hg1, hc1⟩ := row_orders hw1 (by omega)
            obtain ⟨g2, rfl, hg2, hc2⟩ := row_orders hw2 (by omega)
            obtain ⟨y, hy⟩ : ∃ y, L[k]? = some y := ⟨_, List.getElem?_eq_getElem hkl⟩
            obtain ⟨b0, b1, b2, b3, b4, b5⟩ := ord_cells y hB9 hg1 (hc1 k y hy)
            obtain ⟨e0, e1, e2, e3, e4, e5⟩ := ord_cells y hB9 hg2 (hc2 k y hy)
            obtain ⟨ref, token, side, stock, price, shares⟩ := y
            simp only at b0 b1 b2 b3 b4 b5 e0 e1 e2 e3 e4 e5
            have i3 : (0 : Int) ≤ (k : Int) := by omega
            have i4 : (k : Int) < (L.length : Int) := by omega
            have HB9 := Hid.mk hB9
            clear hw1 hw2 hc1 hc2 hy hB9
            go_wp2_with fail
            go_quiet (fail)
            go_wp2_with fail
            exact ⟨⟨k + 1, by omega, by go_num, below_drewN HB9.out _⟩, by simp [intOf]; omega⟩
          · have HB9 := Hid.mk hB9
            clear hB9
            go_wp2_with fail
            go_ret
            exact ⟨rfl, HF9.out.2.2.trans (HB9.out.mono HF9.out.2.2.size)⟩

end Go.Proofs.Ytphkchjejbffeaa

/- Bytes turned into a string; two houses beside each other. -/
namespace Go.Proofs.Ytphkchjejbffeaa
open Go.RowKit

theorem run_str {w : World} {F : Nat → Prop} {v : Value} {l : List UInt8} (h : Rd w F v l) : (convert 28 9 v).run Try.prog w = .ok (.string ⟨l.toArray⟩) w := by
  rcases h with ⟨rfl, rfl⟩ | ⟨g, o, cap, rfl, hl, -⟩
  · rw [run_convert_bytes_nil w 28 5 Try.underlying28 Try.underlying5 0 0 9 Try.underlying9]
    rfl
  · refine run_convert_bytes_back w 28 9 5 ⟨g, o, none⟩ cap l Try.underlying28 Try.underlying5 Try.underlying9 ?_
    intro j hj
    rw [Addr.add_lit]
    exact hl j _ (List.getElem?_eq_getElem hj)

theorem House.keep {At : World → Nat → (Nat → Prop) → St → Prop} (api : Api At) {w w' : World} {hb b : Nat} {G : Nat → Prop} {vo vt : Value} {st : St} {out tape : List UInt8}
    (h : House At w hb b G vo vt st out tape) (hk : ∀ k, HF hb G vo vt k → w'.heap[k]? = w.heap[k]?) : House At w' hb b G vo vt st out tape :=
  ⟨(hk hb (.inl rfl)).trans h.cell, api.keep h.at_ (fun k hG => hk k (.inr (.inl hG))), h.out.keep (fun g hg => hk g (.inr (.inr (.inl hg)))), h.tape.keep (fun g hg => hk g (.inr (.inr (.inr hg)))), h.hG, h.ho, h.ht, h.hot⟩

/-- Two houses that have nothing to do with each other. -/
structure Two (At : World → Nat → (Nat → Prop) → St → Prop) (w : World) (ha a : Nat) (Ga : Nat → Prop) (voa vta : Value) (sa : St) (hb b : Nat) (Gb : Nat → Prop) (vob vtb : Value) (sb : St) : Prop where
  one : House At w ha a Ga voa vta sa [] []
  two : House At w hb b Gb vob vtb sb [] []
  dj : ∀ k, HF ha Ga voa vta k → HF hb Gb vob vtb k → False

theorem Two.symm {At : World → Nat → (Nat → Prop) → St → Prop} {w : World} {ha a : Nat} {Ga : Nat → Prop} {voa vta : Value} {sa : St} {hb b : Nat} {Gb : Nat → Prop} {vob vtb : Value} {sb : St}
    (h : Two At w ha a Ga voa vta sa hb b Gb vob vtb sb) : Two At w hb b Gb vob vtb sb ha a Ga voa vta sa := ⟨h.two, h.one, fun k x y => h.dj k y x⟩

theorem Two.below {At : World → Nat → (Nat → Prop) → St → Prop} (api : Api At) {w w' : World} {ha a : Nat} {Ga : Nat → Prop} {voa vta : Value} {sa : St} {hb b : Nat} {Gb : Nat → Prop} {vob vtb : Value} {sb : St}
    (h : Two At w ha a Ga voa vta sa hb b Gb vob vtb sb) (hB : Below w.heap.size w w') : Two At w' ha a Ga voa vta sa hb b Gb vob vtb sb := ⟨House.below' api h.one hB, House.below' api h.two hB, h.dj⟩

theorem Two.step {At : World → Nat → (Nat → Prop) → St → Prop} (api : Api At) {w w' : World} {ha a : Nat} {Ga : Nat → Prop} {voa vta : Value} {sa : St} {hb b : Nat} {Gb Gb' : Nat → Prop} {vob vtb : Value} {sb sb' : St}
    (h : Two At w ha a Ga voa vta sa hb b Gb vob vtb sb) (hat : At w' b Gb' sb') (hfr : Fr Gb w w') (hG : ∀ k, Gb' k → Gb k ∨ w.heap.size ≤ k) : Two At w' ha a Ga voa vta sa hb b Gb' vob vtb sb' := by
  refine ⟨House.keep api h.one (fun k hk => hfr.block k (House.lt api h.one k hk) (fun hg => h.dj k hk (.inr (.inl hg)))), h.two.step hat hfr hG, ?_⟩
  intro k hk hk'
  have hlt := House.lt api h.one k hk
  rcases hk' with hk' | hk' | hk'
  · exact h.dj k hk (.inl hk')
  · rcases hG k hk' with h' | h'
    · exact h.dj k hk (.inr (.inl h'))
    · omega
  · exact h.dj k hk (.inr (.inr hk'))

/-- A block that belongs to neither house. -/
def Free (w : World) (Ga Gb : Nat → Prop) (g : Nat) : Prop := g < w.heap.size ∧ ¬ Ga g ∧ ¬ Gb g
theorem Free.below {w w' : World} {Ga Gb : Nat → Prop} {g : Nat} (h : Free w Ga Gb g) (hB : Below w.heap.size w w') : Free w' Ga Gb g ∧ w'.heap[g]? = w.heap[g]? := ⟨⟨Nat.lt_of_lt_of_le h.1 hB.size, h.2⟩, hB.block g h.1⟩
theorem Free.one {w w' : World} {Ga Ga' Gb : Nat → Prop} {g : Nat} (h : Free w Ga Gb g) (hfr : Fr Ga w w') (hG : ∀ k, Ga' k → Ga k ∨ w.heap.size ≤ k) : Free w' Ga' Gb g ∧ w'.heap[g]? = w.heap[g]? :=
  ⟨⟨Nat.lt_of_lt_of_le h.1 hfr.size, fun hk => by rcases hG g hk with h' | h'; exact h.2.1 h'; have := h.1; omega, h.2.2⟩, hfr.block g h.1 h.2.1⟩
theorem Free.two {w w' : World} {Ga Gb Gb' : Nat → Prop} {g : Nat} (h : Free w Ga Gb g) (hfr : Fr Gb w w') (hG : ∀ k, Gb' k → Gb k ∨ w.heap.size ≤ k) : Free w' Ga Gb' g ∧ w'.heap[g]? = w.heap[g]? :=
  ⟨⟨Nat.lt_of_lt_of_le h.1 hfr.size, h.2.1, fun hk => by rcases hG g hk with h' | h'; exact h.2.2 h'; have := h.1; omega⟩, hfr.block g h.1 h.2.2⟩

theorem Two.fresh {At : World → Nat → (Nat → Prop) → St → Prop} (api : Api At) {w : World} {ha a : Nat} {Ga : Nat → Prop} {voa vta : Value} {sa : St} {hb b : Nat} {Gb : Nat → Prop} {vob vtb : Value} {sb : St}
    (h : Two At w ha a Ga voa vta sa hb b Gb vob vtb sb) (o : Obj) : Free (w.alloc o) Ga Gb w.heap.size ∧ (w.alloc o).heap[w.heap.size]? = some o :=
  ⟨⟨by rw [size_alloc]; omega, fun hk => by have := api.lt h.one.at_ _ hk; omega, fun hk => by have := api.lt h.two.at_ _ hk; omega⟩, by rw [heap_alloc, if_pos rfl]⟩

/-- Bytes that came out and belong to nobody. -/
def Gave (w : World) (Ga Gb : Nat → Prop) (v : Value) (l : List UInt8) : Prop := Own w 0 v l ∧ ∀ g, v.ownBlock = some g → Free w Ga Gb g
theorem Gave.below {w w' : World} {Ga Gb : Nat → Prop} {v : Value} {l : List UInt8} (h : Gave w Ga Gb v l) (hB : Below w.heap.size w w') : Gave w' Ga Gb v l :=
  ⟨h.1.keep (fun g hg => ((h.2 g hg).below hB).2), fun g hg => ((h.2 g hg).below hB).1⟩
theorem Gave.one {w w' : World} {Ga Ga' Gb : Nat → Prop} {v : Value} {l : List UInt8} (h : Gave w Ga Gb v l) (hfr : Fr Ga w w') (hG : ∀ k, Ga' k → Ga k ∨ w.heap.size ≤ k) : Gave w' Ga' Gb v l :=
  ⟨h.1.keep (fun g hg => ((h.2 g hg).one hfr hG).2), fun g hg => ((h.2 g hg).one hfr hG).1⟩
theorem Gave.two {w w' : World} {Ga Gb Gb' : Nat → Prop} {v : Value} {l : List UInt8} (h : Gave w Ga Gb v l) (hfr : Fr Gb w w') (hG : ∀ k, Gb' k → Gb k ∨ w.heap.size ≤ k) : Gave w' Ga Gb' v l :=
  ⟨h.1.keep (fun g hg => ((h.2 g hg).two hfr hG).2), fun g hg => ((h.2 g hg).two hfr hG).1⟩
theorem Gave.of_one {At : World → Nat → (Nat → Prop) → St → Prop} (api : Api At) {w w' : World} {ha a : Nat} {Ga Ga' : Nat → Prop} {voa vta : Value} {sa : St} {hb b : Nat} {Gb : Nat → Prop} {vob vtb : Value} {sb : St} {v : Value} {l : List UInt8}
    (h : Two At w ha a Ga voa vta sa hb b Gb vob vtb sb) (ho : Own w' 0 v l) (hv : ∀ g, v.ownBlock = some g → (Ga g ∨ w.heap.size ≤ g) ∧ ¬ Ga' g) : Gave w' Ga' Gb v l := by
  refine ⟨ho, fun g hg => ⟨(ho.lt g hg).2, (hv g hg).2, fun hk => ?_⟩⟩
  rcases (hv g hg).1 with h' | h'
  · exact h.dj g (.inr (.inl h')) (.inr (.inl hk))
  · have := api.lt h.two.at_ g hk; omega
theorem Gave.of_two {At : World → Nat → (Nat → Prop) → St → Prop} (api : Api At) {w w' : World} {ha a : Nat} {Ga : Nat → Prop} {voa vta : Value} {sa : St} {hb b : Nat} {Gb Gb' : Nat → Prop} {vob vtb : Value} {sb : St} {v : Value} {l : List UInt8}
    (h : Two At w ha a Ga voa vta sa hb b Gb vob vtb sb) (ho : Own w' 0 v l) (hv : ∀ g, v.ownBlock = some g → (Gb g ∨ w.heap.size ≤ g) ∧ ¬ Gb' g) : Gave w' Ga Gb' v l := by
  refine ⟨ho, fun g hg => ⟨(ho.lt g hg).2, fun hk => ?_, (hv g hg).2⟩⟩
  rcases (hv g hg).1 with h' | h'
  · exact h.dj g (.inr (.inl hk)) (.inr (.inl h'))
  · have := api.lt h.one.at_ g hk; omega
theorem Gave.str {w : World} {Ga Gb : Nat → Prop} {v : Value} {l : List UInt8} (h : Gave w Ga Gb v l) : (convert 28 9 v).run Try.prog w = .ok (.string ⟨l.toArray⟩) w := run_str (F := fun _ => False) (h.1.rd (fun _ _ h => h))

end Go.Proofs.Ytphkchjejbffeaa

/- Bytes however they are cut: how much goes out. -/
namespace Go.Proofs.Ytphkchjejbffeaa

/-- All messages of some acts, one behind the other. -/
def msgsOf (l : List Act) : List UInt8 := l.flatMap fun a => if pick a.kind 11 < 10 then a.message else []
theorem msgs_snoc (l : List Act) (k : Nat) (a : Act) (h : l[k]? = some a) : msgsOf (l.take (k + 1)) = msgsOf (l.take k) ++ (if pick a.kind 11 < 10 then a.message else []) := by
  have hk : k < l.length := by
    rcases Nat.lt_or_ge k l.length with h' | h'
    · exact h'
    · rw [List.getElem?_eq_none h'] at h; cases h
  rw [List.getElem?_eq_getElem hk] at h
  cases h
  rw [List.take_succ_eq_append_getElem hk]
  simp only [msgsOf, List.flatMap_append, List.flatMap_cons, List.flatMap_nil, List.append_nil]
theorem message_len (a : Act) : a.message.length ≤ 13 := by
  unfold Act.message
  split
  · simp [enc_length]
  · split <;> simp [enc_length]
theorem msgs_len (l : List Act) : (msgsOf l).length ≤ 13 * l.length := by
  induction l with
  | nil => simp [msgsOf]
  | cons a l ih =>
    have h := message_len a
    simp only [msgsOf, List.flatMap_cons, List.length_append, List.length_cons] at *
    split
    · omega
    · rw [List.length_nil]; omega

structure Gr (a b : St) (n : Nat) : Prop where
  ans : b.ans.length ≤ a.ans.length + n
  tape : b.tape.length ≤ a.tape.length + n
theorem Gr.of {a b : St} {x y u : Nat} (h : Grew a b x y u) (hx : x ≤ 4000) (hy : y ≤ 4000) : Gr a b 4000 := ⟨by have := h.ans; omega, by have := h.tape; omega⟩

theorem gr_act (st : St) (m : List UInt8) : Gr st (st.act m) 4000 := by
  unfold St.act
  split
  · rcases grew_enter st (at_ m 1 4) (byteAt m 5) (byteAt m 6).toNat (at_ m 7 2) (at_ m 9 2) (byteAt m 11) with h | h
    · exact .of h.1 (by omega) (by omega)
    · exact .of h.1 (by omega) (by omega)
  · split
    · rcases grew_replace st (at_ m 1 4) (at_ m 5 4) (at_ m 9 2) (at_ m 11 2) with h | h
      · exact .of h.1 (by omega) (by omega)
      · exact .of h.1 (by omega) (by omega)
    · split
      · exact .of (grew_cancel st _ _) (by omega) (by omega)
      · exact ⟨by simp [St.shut, St.say, St.head, enc_length], by simp [St.shut, St.say]⟩
theorem gr_step (st : St) (c : UInt8) : Gr st (st.step c) 4000 := by
  unfold St.step
  split
  · split
    · have h := gr_act { st with part := [] } (st.part ++ [c])
      exact ⟨h.ans, h.tape⟩
    · exact ⟨by simp, by simp⟩
  · exact ⟨by omega, by omega⟩
theorem gr_feed (l : List UInt8) : ∀ st : St, Gr st (st.feed l) (4000 * l.length) := by
  induction l with
  | nil => intro st; exact ⟨by simp [St.feed], by simp [St.feed]⟩
  | cons c l ih =>
    intro st
    have h1 := gr_step st c
    have h2 := ih (st.step c)
    have e : st.feed (c :: l) = (st.step c).feed l := rfl
    rw [e, List.length_cons]
    exact ⟨by have := h1.ans; have := h2.ans; omega, by have := h1.tape; have := h2.tape; omega⟩

end Go.Proofs.Ytphkchjejbffeaa

/- How the laws' arguments come in: acts in memory. -/
namespace Go.Proofs.Ytphkchjejbffeaa
open Go.ChangeShapes Go.WideShapes Go.ChangeAt Go.RowKit Go.Deep

theorem own : ownKnob Try.prog.godebug = none := by kernel_rfl
theorem laidOut : laidOutB Try.prog = true := by kernel_rfl
theorem Try.cells49 : Try.prog.cellsOf 49 = 7 := by kernel_rfl
theorem Try.cells3 : Try.prog.cellsOf 3 = 1 := by kernel_rfl
theorem Try.bytes49 : Try.prog.bytesOf 49 = 56 := by kernel_rfl

theorem list7 {α : Type} (l : List α) (h : l.length = 7) : ∃ a b c d e f g, l = [a, b, c, d, e, f, g] := by
  match l, h with
  | [a, b, c, d, e, f, g], _ => exact ⟨a, b, c, d, e, f, g, rfl⟩

theorem wf_i64 {x : Int} (h : (Lit.int .i64 x).wf = true) : I64 x := by
  simp [Lit.wf, IntKind.min, IntKind.max, IntKind.signed, IntKind.bits] at h
  unfold I64
  omega

theorem one_int {H : Type} {enc : TypeId × Value → H} {W : World} {base : Nat} {sp : Nat → Bool} {held : Bool} {n : Nat} {v : Value} {x : DataW H × List MemPlace}
    (h : DataW.trod enc Try.prog W base sp held n 3 [v] = some x) : ∃ y : Int, v = .int .i64 y ∧ I64 y := by
  obtain ⟨y, e, -, wy⟩ := DataW.trod_int Try.underlying3 h
  simp at e
  exact ⟨y, e, wf_i64 wy⟩

theorem open_act {H : Type} {enc : TypeId × Value → H} {W : World} {base : Nat} {sp : Nat → Bool} {held : Bool} {n : Nat} {cs : List Value} {x : DataW H × List MemPlace}
    (h : DataW.trod enc Try.prog W base sp held n 49 cs = some x) : ∃ a : Act, a.ok ∧ cs = a.cells.toList := by
  obtain ⟨xs, m, -, -, hl, hlen, hf⟩ := DataW.trod_struct Try.underlying49 h
  rw [Try.cells49] at hl
  obtain ⟨v0, v1, v2, v3, v4, v5, v6, rfl⟩ := list7 cs hl
  obtain ⟨y0, y1, y2, y3, y4, y5, y6, rfl⟩ := list7 xs hlen
  have f0 : DataW.trod enc Try.prog W base sp held m 3 (([v0, v1, v2, v3, v4, v5, v6].drop 0).take (Try.prog.cellsOf 3)) = some y0 := hf 0 _ rfl
  have f1 : DataW.trod enc Try.prog W base sp held m 3 (([v0, v1, v2, v3, v4, v5, v6].drop 1).take (Try.prog.cellsOf 3)) = some y1 := hf 1 _ rfl
  have f2 : DataW.trod enc Try.prog W base sp held m 3 (([v0, v1, v2, v3, v4, v5, v6].drop 2).take (Try.prog.cellsOf 3)) = some y2 := hf 2 _ rfl
  have f3 : DataW.trod enc Try.prog W base sp held m 3 (([v0, v1, v2, v3, v4, v5, v6].drop 3).take (Try.prog.cellsOf 3)) = some y3 := hf 3 _ rfl
  have f4 : DataW.trod enc Try.prog W base sp held m 3 (([v0, v1, v2, v3, v4, v5, v6].drop 4).take (Try.prog.cellsOf 3)) = some y4 := hf 4 _ rfl
  have f5 : DataW.trod enc Try.prog W base sp held m 3 (([v0, v1, v2, v3, v4, v5, v6].drop 5).take (Try.prog.cellsOf 3)) = some y5 := hf 5 _ rfl
  have f6 : DataW.trod enc Try.prog W base sp held m 3 (([v0, v1, v2, v3, v4, v5, v6].drop 6).take (Try.prog.cellsOf 3)) = some y6 := hf 6 _ rfl
  rw [Try.cells3] at f0 f1 f2 f3 f4 f5 f6
  obtain ⟨a0, rfl, b0⟩ := one_int (v := v0) f0
  obtain ⟨a1, rfl, b1⟩ := one_int (v := v1) f1
  obtain ⟨a2, rfl, b2⟩ := one_int (v := v2) f2
  obtain ⟨a3, rfl, b3⟩ := one_int (v := v3) f3
  obtain ⟨a4, rfl, b4⟩ := one_int (v := v4) f4
  obtain ⟨a5, rfl, b5⟩ := one_int (v := v5) f5
  obtain ⟨a6, rfl, b6⟩ := one_int (v := v6) f6
  exact ⟨⟨a0, a1, a2, a3, a4, a5, a6⟩, ⟨b0, b1, b2, b3, b4, b5, b6⟩, rfl⟩

theorem mapM_get {α β : Type} (f : α → Option β) : ∀ (l : List α) (r : List β), l.mapM f = some r → ∀ (i : Nat) (a : α), l[i]? = some a → ∃ b, r[i]? = some b ∧ f a = some b := by
  intro l
  induction l with
  | nil => intro r _ i a h; simp at h
  | cons x l ih =>
    intro r h i a hi
    rw [List.mapM_cons] at h
    cases hx : f x with
    | none => rw [hx] at h; cases h
    | some b =>
      rw [hx] at h
      cases hl : l.mapM f with
      | none => rw [hl] at h; cases h
      | some r' =>
        rw [hl] at h
        cases h
        cases i with
        | zero => simp at hi; subst hi; exact ⟨b, rfl, hx⟩
        | succ i => simp at hi; obtain ⟨c, h1, h2⟩ := ih r' hl i a hi; exact ⟨c, by simpa using h1, h2⟩

theorem add_add (a : Addr) (i j : Nat) : a.add (i + j) = (a.add i).add j := by
  obtain ⟨b, o, s⟩ := a
  by_cases hi : i = 0
  · subst hi; simp [Addr.add]
  · by_cases hj : j = 0
    · subst hj; simp [Addr.add]
    · simp only [Addr.add, if_neg hi, if_neg hj, if_neg (by omega : ¬ i + j = 0)]
      congr 1
      omega

theorem open_acts {H : Type} {enc : TypeId × Value → H} {W : World} {n : Nat} {a : Option Addr} {len cap : Nat} {x : DataW H × List MemPlace} {sp : Nat → Bool} {held : Bool}
    (h : DataW.trod enc Try.prog W 0 sp held n 40 [.slice a len cap] = some x) :
    ∃ l : List Act, ActsAt W (.slice a len cap) l ∧ ((l = [] ∧ x.1 = .nil) ∨ ∃ es spare, x.1 = .slice es spare ∧ es.length = l.length) := by
  rcases open_slice Try.underlying40 h with ⟨h1, h2⟩ | ⟨ad, len', cap', m, k, D, Pl, h1, h2, h3, h4, h5, h6, h7⟩
  · simp at h1
    obtain ⟨rfl, rfl, rfl⟩ := h1
    exact ⟨[], .inl ⟨_, _, rfl, rfl⟩, .inl ⟨rfl, by rw [h2]⟩⟩
  · simp at h1
    obtain ⟨rfl, rfl, rfl⟩ := h1
    have hm : len ≤ m := by rw [h5]; split <;> omega
    have hel : ∀ i, i < len → ∃ b : Act, b.ok ∧ ∀ j u, b.cells[j]? = some u → W.cell? (ad.add (i * 7 + j)) = some u := by
      intro i hi
      obtain ⟨cs, hc, ht⟩ := h7 i (by omega)
      obtain ⟨b, hb, rfl⟩ := open_act ht
      refine ⟨b, hb, ?_⟩
      intro j u hu
      rw [Try.cells49] at hc
      unfold World.cells? at hc
      rw [if_pos (Nat.zero_le _)] at hc
      have hj : j < 7 := by
        rcases Nat.lt_or_ge j 7 with h' | h'
        · exact h'
        · rw [Array.getElem?_eq_none (by simpa [Act.cells] using h')] at hu; cases hu
      obtain ⟨c, hc1, hc2⟩ := mapM_get _ _ _ hc j j (by rw [List.getElem?_range hj])
      have : c = u := by
        have hu' : b.cells.toList[j]? = some u := by simpa using hu
        rw [hu'] at hc1
        exact (Option.some.inj hc1).symm
      subst this
      rw [← hc2, add_add]
    rcases Nat.eq_zero_or_pos len with h0 | h0
    · subst h0
      exact ⟨[], .inl ⟨_, _, rfl, rfl⟩, .inr ⟨_, _, by rw [h6], by simp⟩⟩
    · have : Inhabited Act := ⟨⟨0, 0, 0, 0, 0, 0, 0⟩⟩
      obtain ⟨f, hf⟩ := choose_lt hel
      obtain ⟨blk, off, spot⟩ := ad
      have hsp : spot = none := by
        have := (hf 0 h0).2 0 _ rfl
        simpa [Addr.add] using World.cell?_spot this
      subst hsp
      have hblk : blk < W.heap.size := by
        have := (hf 0 h0).2 0 _ rfl
        simpa [Addr.add] using World.block_lt_of_cell? W _ this
      have hl : ((List.range len).map f).length = len := by simp
      refine ⟨(List.range len).map f, .inr ⟨blk, off, cap, by rw [hl], hblk, by rw [hl]; unfold maxLen at h4; omega, ?_⟩, .inr ⟨_, _, by rw [h6], by simp⟩⟩
      intro i b hb
      rw [List.getElem?_map, Option.map_eq_some_iff] at hb
      obtain ⟨i', hi', rfl⟩ := hb
      have hil : i < len := by
        rcases Nat.lt_or_ge i len with h' | h'
        · exact h'
        · rw [List.getElem?_eq_none (by simpa using h')] at hi'; cases hi'
      rw [List.getElem?_range hil] at hi'
      cases hi'
      refine ⟨(hf i hil).1, ?_⟩
      intro j u hu
      have := (hf i hil).2 j u hu
      rw [Addr.add_lit] at this
      rw [Nat.add_assoc]; exact this

end Go.Proofs.Ytphkchjejbffeaa

/- How the laws' arguments come in: whole numbers in memory, and how much there may be. -/
namespace Go.Proofs.Ytphkchjejbffeaa
open Go.ChangeShapes Go.WideShapes Go.ChangeAt Go.RowKit Go.Deep

theorem mapM_len {α β : Type} (f : α → Option β) : ∀ (l : List α) (r : List β), l.mapM f = some r → r.length = l.length := by
  intro l
  induction l with
  | nil => intro r h; simp at h; subst h; rfl
  | cons x l ih =>
    intro r h
    rw [List.mapM_cons] at h
    cases hx : f x with
    | none => rw [hx] at h; cases h
    | some b =>
      rw [hx] at h
      cases hl : l.mapM f with
      | none => rw [hl] at h; cases h
      | some r' =>
        rw [hl] at h
        cases h
        simp [ih r' hl]

/-- Whole numbers that may be read. -/
def IntsAt (w : World) (v : Value) (l : List Int) : Prop :=
  ∃ ra rc, v = .slice ra l.length rc ∧ l.length ≤ 9223372036854775807 ∧
    ∀ (i : Nat) (a : Int), l[i]? = some a → I64 a ∧ ∃ g o, ra = some ⟨g, o, none⟩ ∧ g < w.heap.size ∧ w.cell? ⟨g, o + i, none⟩ = some (.int .i64 a)

theorem open_ints {H : Type} {enc : TypeId × Value → H} {W : World} {n : Nat} {a : Option Addr} {len cap : Nat} {x : DataW H × List MemPlace} {sp : Nat → Bool} {held : Bool}
    (h : DataW.trod enc Try.prog W 0 sp held n 22 [.slice a len cap] = some x) :
    ∃ l : List Int, IntsAt W (.slice a len cap) l ∧ ((l = [] ∧ x.1 = .nil) ∨ ∃ es spare, x.1 = .slice es spare ∧ es.length = l.length) := by
  rcases open_slice Try.underlying22 h with ⟨h1, h2⟩ | ⟨ad, len', cap', m, k, D, Pl, h1, h2, h3, h4, h5, h6, h7⟩
  · simp at h1
    obtain ⟨rfl, rfl, rfl⟩ := h1
    exact ⟨[], ⟨_, _, rfl, by simp, fun i a h => by simp at h⟩, .inl ⟨rfl, by rw [h2]⟩⟩
  · simp at h1
    obtain ⟨rfl, rfl, rfl⟩ := h1
    have hm : len ≤ m := by rw [h5]; split <;> omega
    have hel : ∀ i, i < len → ∃ b : Int, I64 b ∧ W.cell? (ad.add i) = some (.int .i64 b) := by
      intro i hi
      obtain ⟨cs, hc, ht⟩ := h7 i (by omega)
      rw [Try.cells3] at hc
      unfold World.cells? at hc
      rw [if_pos (Nat.zero_le _)] at hc
      obtain ⟨c, hc1, hc2⟩ := mapM_get _ _ _ hc 0 0 rfl
      have hcl : cs = [c] := by
        have hl : cs.length = 1 := mapM_len _ _ _ hc
        match cs, hl with
        | [y], _ => simp at hc1; rw [hc1]
      subst hcl
      obtain ⟨y, rfl, hy⟩ := one_int ht
      refine ⟨y, hy, ?_⟩
      rw [← hc2, Nat.mul_one]
      simp [Addr.add]
    rcases Nat.eq_zero_or_pos len with h0 | h0
    · subst h0
      exact ⟨[], ⟨_, _, rfl, by simp, fun i a h => by simp at h⟩, .inr ⟨_, _, by rw [h6], by simp⟩⟩
    · obtain ⟨f, hf⟩ := choose_lt hel
      obtain ⟨blk, off, spot⟩ := ad
      have hsp : spot = none := by
        have := (hf 0 h0).2
        simpa [Addr.add] using World.cell?_spot this
      subst hsp
      have hblk : blk < W.heap.size := by
        have := (hf 0 h0).2
        simpa [Addr.add] using World.block_lt_of_cell? W _ this
      have hl : ((List.range len).map f).length = len := by simp
      refine ⟨(List.range len).map f, ⟨some ⟨blk, off, none⟩, cap, by rw [hl], by rw [hl]; unfold maxLen at h4; omega, ?_⟩, .inr ⟨_, _, by rw [h6], by simp⟩⟩
      intro i b hb
      rw [List.getElem?_map, Option.map_eq_some_iff] at hb
      obtain ⟨i', hi', rfl⟩ := hb
      have hil : i < len := by
        rcases Nat.lt_or_ge i len with h' | h'
        · exact h'
        · rw [List.getElem?_eq_none (by simpa using h')] at hi'; cases hi'
      rw [List.getElem?_range hil] at hi'
      cases hi'
      refine ⟨(hf i hil).1, blk, off, rfl, hblk, ?_⟩
      have := (hf i hil).2
      rw [Addr.add_lit] at this
      exact this

theorem bulk_one {H : Type} (d : DataW H) : 1 ≤ Rows.uptoBulk d := by
  cases d with
  | lit l => cases l <;> simp [Rows.uptoBulk]
  | nil => simp [Rows.uptoBulk]
  | ptr d => simp [Rows.uptoBulk]
  | slice elems spare => simp [Rows.uptoBulk]
  | agg parts => simp [Rows.uptoBulk]
  | iface t d => simp [Rows.uptoBulk]
  | map entries => simp [Rows.uptoBulk]
  | held h => simp [Rows.uptoBulk]
theorem bulk_len {H : Type} (l : List (DataW H)) : l.length ≤ Rows.uptoBulkAll l := by
  induction l with
  | nil => simp [Rows.uptoBulkAll]
  | cons x r ih => have := bulk_one x; simp only [Rows.uptoBulkAll, List.length_cons]; omega
theorem bulk_slice {H : Type} (elems spare : List (DataW H)) : elems.length ≤ Rows.uptoBulk (.slice elems spare) := by
  have h1 := bulk_len elems
  simp only [Rows.uptoBulk]
  omega
theorem bulk_part {H : Type} {d : DataW H} {l : List (DataW H)} (h : d ∈ l) : Rows.uptoBulk d ≤ Rows.uptoBulkAll l := by
  induction l with
  | nil => cases h
  | cons x r ih =>
    simp only [Rows.uptoBulkAll]
    cases List.mem_cons.1 h with
    | inl e => subst e; omega
    | inr e => have := ih e; omega
theorem bulk_bound {H : Type} {l : List (DataW H)} (hk : Rows.uptoSmall H l = true) : Rows.uptoBulkAll l ≤ 1048576 := of_decide_eq_true hk

end Go.Proofs.Ytphkchjejbffeaa
