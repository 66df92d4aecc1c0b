/- The law Chunked, out of what the calls do. -/
import Derived.Test.YtphkchjejbffeaaG04
import Derived.Deep.Cut
import Derived.Lib.AppendStr
namespace Go.Proofs.Ytphkchjejbffeaa
open Go.RowKit
attribute [local go_sem ↓] Go.wp_at_zero Go.wp_at_succ

theorem wpList_append_str {w : World} {ops : Array Oper} {rest : List Oper} {o : Oper} {a : Go.Act} {Q : Exit → Go.Act → World → Prop} (hgd : o.guard = none) (s x : Operand)
    (ho : o.op = .call { callee := .builtin .append, args := #[s, x], argTypes := #[28, 9] })
    (base : Nat) (vo : Value) (out : List UInt8) (hs : a.eval s = vo) (hown : Own w base vo out) (tl : ByteArray) (hx : a.eval x = .string tl)
    (hlen : out.length + tl.size ≤ 140737488355328) (hbase : base ≤ w.heap.size)
    (h : ∀ ra n cap w', Own w' base (.slice ra n cap) (out ++ tl.data.toList) → w.grownBy w' vo.ownBlock → wpList Try.prog ops Q rest (a.put o.dst (.slice ra n cap)) w') :
    wpList Try.prog ops Q (o :: rest) a w := by
  obtain ⟨i0, hi, hz0, hz1, hz2⟩ := info_parts Try.info5
  refine Lib.wpList_append_own_string w hgd s x 28 9 ho base 5 i0 Try.underlying28 Try.underlying9 hi hz0 hz1 hz2 vo _ _ hs hown tl hx (by unfold maxLen; omega) hlen hbase ?_
  intro v' w' h2 h3 _
  have h2' : Own w' base v' (out ++ tl.data.toList) := by
    unfold Own
    rw [List.length_append, List.map_append]
    exact h2
  obtain ⟨ra, cap, rfl, _, _⟩ := h2'.len
  exact h ra _ cap w' h2' h3

/-- What stands behind, where one reads on. -/
theorem rd_rest {w w' : World} {G G' : Nat → Prop} {g o cap : Nat} {l : List UInt8} {nf : Nat} (hl : Lies w g o l) (h1 : nf ≤ l.length) (h2 : l.length ≤ cap) (h3 : cap ≤ maxLen) (hg : ¬ G g) (hs : g < w.heap.size) (hf : Fr G w w')
    (hG : ∀ k, G' k → G k ∨ w.heap.size ≤ k) : Rd w' G' (.slice (if cap = nf then some (⟨g, o, none⟩ : Addr) else some ⟨g, o + nf, none⟩) (l.length - nf) (cap - nf)) (l.drop nf) := by
  have hg' : ¬ G' g := fun h => by
    rcases hG g h with h | h
    · exact hg h
    · omega
  have hl' : Lies w' g o l := hl.keep (hf.block g hs hg)
  by_cases hc : cap = nf
  · rw [if_pos hc]
    exact .inr ⟨g, o, cap - nf, by rw [List.length_drop], fun j c hj => by rw [List.drop_of_length_le (by omega)] at hj; simp at hj, by rw [List.length_drop]; omega, by omega, hg', Nat.lt_of_lt_of_le hs hf.size⟩
  · rw [if_neg hc]
    exact .inr ⟨g, o + nf, cap - nf, by rw [List.length_drop], hl'.drop nf, by rw [List.length_drop]; omega, by omega, hg', Nat.lt_of_lt_of_le hs hf.size⟩

theorem room_feed (s0 : St) (h : s0.ans = [] ∧ s0.tape = []) (m : List UInt8) (hm : m.length ≤ 16777216) : (s0.feed m).ans.length ≤ big ∧ (s0.feed m).tape.length ≤ big := by
  obtain ⟨h1, h2⟩ := gr_feed m s0
  rw [h.1] at h1
  rw [h.2] at h2
  rw [List.length_nil] at h1 h2
  rw [show big = 70368744177664 from rfl]
  omega

/-- Two houses, and two boxes beside them. -/
structure Fin2 (At : World → Nat → (Nat → Prop) → St → Prop) (w0 w : World) (ha a : Nat) (Ga : Nat → Prop) (voa vta : Value) (sa : St) (hb b : Nat) (Gb : Nat → Prop) (vob vtb : Value) (sb : St) (vx wx : Nat) (V : Obj) : Prop where
  two : Two At w ha a Ga voa vta sa hb b Gb vob vtb sb
  below : Below w0.heap.size w0 w
  la : ∀ k, Ga k → w0.heap.size ≤ k
  lb : ∀ k, Gb k → w0.heap.size ≤ k
  fv : Free w Ga Gb vx
  xv : w.heap[vx]? = some V
  fw : Free w Ga Gb wx
  xw : w.heap[wx]? = some V
theorem Fin2.one {At : World → Nat → (Nat → Prop) → St → Prop} (api : Api At) {w0 w w' : World} {ha a : Nat} {Ga Ga' : Nat → Prop} {voa vta : Value} {sa sa' : St} {hb b : Nat} {Gb : Nat → Prop} {vob vtb : Value} {sb : St} {vx wx : Nat} {V : Obj}
    (h : Fin2 At w0 w ha a Ga voa vta sa hb b Gb vob vtb sb vx wx V) (hat : At w' a Ga' sa') (hfr : Fr Ga w w') (hG : ∀ k, Ga' k → Ga k ∨ w.heap.size ≤ k) : Fin2 At w0 w' ha a Ga' voa vta sa' hb b Gb vob vtb sb vx wx V :=
  ⟨(h.two.symm.step api hat hfr hG).symm, h.below.trans (hfr.below h.below.size h.la), fun k hk => by rcases hG k hk with h' | h'; exact h.la k h'; have := h.below.size; omega, h.lb,
   (h.fv.one hfr hG).1, (h.fv.one hfr hG).2.trans h.xv, (h.fw.one hfr hG).1, (h.fw.one hfr hG).2.trans h.xw⟩
theorem Fin2.oth {At : World → Nat → (Nat → Prop) → St → Prop} (api : Api At) {w0 w w' : World} {ha a : Nat} {Ga : Nat → Prop} {voa vta : Value} {sa : St} {hb b : Nat} {Gb Gb' : Nat → Prop} {vob vtb : Value} {sb sb' : St} {vx wx : Nat} {V : Obj}
    (h : Fin2 At w0 w ha a Ga voa vta sa hb b Gb vob vtb sb vx wx V) (hat : At w' b Gb' sb') (hfr : Fr Gb w w') (hG : ∀ k, Gb' k → Gb k ∨ w.heap.size ≤ k) : Fin2 At w0 w' ha a Ga voa vta sa hb b Gb' vob vtb sb' vx wx V :=
  ⟨h.two.step api hat hfr hG, h.below.trans (hfr.below h.below.size h.lb), h.la, fun k hk => by rcases hG k hk with h' | h'; exact h.lb k h'; have := h.below.size; omega,
   (h.fv.two hfr hG).1, (h.fv.two hfr hG).2.trans h.xv, (h.fw.two hfr hG).1, (h.fw.two hfr hG).2.trans h.xw⟩

theorem cells4 {W : World} {k : Nat} {T : TypeId} {v0 v1 v2 v3 : Value} (h : W.heap[k]? = some (.cells #[v0, v1, v2, v3] T)) :
    W.cell? ⟨k, 0, none⟩ = some v0 ∧ W.cell? ⟨k, 1, none⟩ = some v1 ∧ W.cell? ⟨k, 2, none⟩ = some v2 ∧ W.cell? ⟨k, 3, none⟩ = some v3 := by
  refine ⟨?_, ?_, ?_, ?_⟩ <;> (rw [cell_of_row W k _ _ T (0, 0) h]; rfl)

set_option maxRecDepth 100000 in
set_option maxHeartbeats 4000000 in
theorem chunked_any {At : World → Nat → (Nat → Prop) → St → Prop} (api : Api At) (pool : Int) (v : Value) (l : List Act) (vc : Value) (cuts : List Int) (tl : ByteArray) (w : World) (h1 : -9223372036854775808 ≤ pool) (h2 : pool ≤ 9223372036854775807)
    (hl : ActsAt w v l) (hn : l.length ≤ 1048576) (hc : IntsAt w vc cuts) (ht : tl.size ≤ 1048576) :
    Calls Try.prog 8 #[.int .i64 pool, v, vc, .string tl] w fun e w' => e = .returned (.bool true) ∧ Below w.heap.size w w' := by
  obtain ⟨rs, cs, rfl, hlen, hcs⟩ := hl.form
  obtain ⟨rc, cc, rfl, hclen, hcc⟩ := hc
  have HCS := Hid.mk hcs
  have HCC := Hid.mk hcc
  clear hl hcs hcc
  go_enter Try.func8, Try.ntmps8
  go_wp2_with fail
  refine (open_any api pool w h1 h2).mono ?_
  rintro e w1 ⟨ha, a, Ga, voa, vta, rfl, hha, hFa, hBa⟩
  have HA := Hid.mk (And.intro hha (And.intro hFa hBa))
  clear hha hFa hBa
  go_wp2_with fail
  refine (open_any api pool w1 h1 h2).mono ?_
  rintro e w2 ⟨hb, b, Gb, vob, vtb, rfl, hhb, hFb, hBb⟩
  have hha := House.below' api HA.out.1 hBb
  have hB2 : Below w.heap.size w w2 := HA.out.2.2.trans (hBb.mono HA.out.2.2.size)
  have hla := House.lt api HA.out.1
  have htwo : Two At w2 ha a Ga voa vta (openSt (1 + pick pool 64)) hb b Gb vob vtb (openSt (1 + pick pool 64)) := ⟨hha, hhb, fun k x y => by have := hla k x; have := hFb k y; omega⟩
  have hs0 : (openSt (1 + pick pool 64)).ans = [] ∧ (openSt (1 + pick pool 64)).tape = [] := ⟨told_ans _, told_tape' _⟩
  have HB := Hid.mk (And.intro htwo (And.intro hB2 hs0))
  have HF0 : Hid ((∀ k, Ga k → w.heap.size ≤ k) ∧ ∀ k, Gb k → w.heap.size ≤ k) := ⟨fun k hk => HA.out.2.1 k (.inr (.inl hk)), fun k hk => Nat.le_trans HA.out.2.2.size (hFb k (.inr (.inl hk)))⟩
  clear hha hhb hFb hBb hB2 hla htwo hs0 HA
  generalize openSt (1 + pick pool 64) = s0 at HB
  go_wp2_with fail
  go_loopw [13, 14] (fun vA i wr => ∃ k : Nat, k ≤ l.length ∧ i = .int .i64 k ∧ Own wr w2.heap.size vA (msgsOf (l.take k)) ∧ Below w2.heap.size w2 wr) (fun _ i _ => l.length - (intOf i).toNat)
  case atStart => exact ⟨0, Nat.zero_le _, rfl, World.ownsRow_nil _ _ _ _, Below.refl _ _⟩
  case round =>
    obtain ⟨k, hk, rfl, hown, hBr⟩ := hrel
    by_cases hlt : k < l.length
    · obtain ⟨x, hka⟩ : ∃ a, l[k]? = some a := ⟨_, List.getElem?_eq_getElem hlt⟩
      obtain ⟨hok, g, o, rfl, hg, hcs⟩ := HCS.out k x hka
      have hBw : Below w.heap.size w wr := HB.out.2.1.trans (hBr.mono HB.out.2.1.size)
      obtain ⟨d0, d1, d2, d3, d4, d5, d6⟩ := act_cells x (w := wr) (g := g) (o := o + k * 7) (fun t u hu => (hBw.cell (p := ⟨g, o + k * 7 + t, none⟩) hg).trans (hcs t u hu))
      have i1 : (0 : Int) ≤ (k : Int) := by omega
      have i2 : (k : Int) < (l.length : Int) := by omega
      have HSN := Hid.mk (msgs_snoc l k x hka)
      have hml := msgs_len (l.take k)
      have hml' : (l.take k).length ≤ 1048576 := by rw [List.length_take]; omega
      have hm13 := message_len x
      have hmsg := fun w => message_any x w hok
      generalize x.message = M at *
      obtain ⟨kind, token, other, side, stock, price, shares⟩ := x
      obtain ⟨⟨k1, k2⟩, -, -, -, -, -, -⟩ := hok
      simp only [Act.cells] at *
      have HMsg := Hid.mk hmsg
      obtain ⟨rA, cA, rfl, -, -⟩ := hown.len
      have HL := Hid.mk (And.intro hown hBr)
      have hszr := hBr.size
      clear hmsg hcs hka hown hBw hBr
      by_cases hkk : pick kind 11 < 10
      · have j1 : ((pick kind 11 : Nat) : Int) < 10 := by omega
        go_wp2_with fail
        refine (pick_any kind 11 wr k1 k2 (by decide) (by decide)).mono ?_
        rintro e w' ⟨rfl, hw⟩
        replace hw := hw.symm
        subst hw
        rw [show (11 : Int).toNat = 11 from rfl]
        go_wp2_with fail
        refine (HMsg.out _).mono ?_
        rintro e w3 ⟨v3, rfl, hov, hb3⟩
        have hown3 := HL.out.1.below hb3
        have hrd3 := hov.rd (F := fun _ => False) (fun _ _ h => h)
        have hlen3 := hown3.len
        have hmaxA : (msgsOf (List.take k l)).length + M.length ≤ 140737488355328 := by omega
        have hsz3 : w2.heap.size ≤ w3.heap.size := Nat.le_trans hszr hb3.size
        clear hlen3 hov d0 d1 d2 d3 d4 d5 d6
        go_wp2_with (at_builtin; refine wpList_append_rd rfl _ _ rfl w2.heap.size _ _ rfl hown3 v3 M rfl (fun _ => False) hrd3 hmaxA hsz3 ?_; intro r5 n5 q5 w5 ho5 hg5 hv5)
        have hB5 : Below w2.heap.size w2 w5 := (HL.out.2.trans (hb3.mono hszr)).grown hg5 hsz3 (fun g hg => (hown3.lt g hg).1)
        have HP := Hid.mk (And.intro ho5 hB5)
        clear ho5 hB5 hg5 hv5 hown3 hrd3 hb3
        go_wp2_with fail
        refine ⟨⟨k + 1, by omega, by go_num, ?_, HP.out.2⟩, by simp [intOf]; omega⟩
        rw [HSN.out, if_pos hkk]
        exact HP.out.1
      · have j1 : ¬ (((pick kind 11 : Nat) : Int) < 10) := by omega
        go_wp2_with fail
        refine (pick_any kind 11 wr k1 k2 (by decide) (by decide)).mono ?_
        rintro e w' ⟨rfl, hw⟩
        replace hw := hw.symm
        subst hw
        rw [show (11 : Int).toNat = 11 from rfl]
        go_wp2_with fail
        refine ⟨⟨k + 1, by omega, by go_num, ?_, HL.out.2⟩, by simp [intOf]; omega⟩
        rw [HSN.out, if_neg hkk, List.append_nil]
        exact HL.out.1
    · have hkl : k = l.length := by omega
      rw [hkl, List.take_length] at hown
      have hml := msgs_len l
      obtain ⟨rA, cA, rfl, -, -⟩ := hown.len
      have hlA : (msgsOf l).length + tl.size ≤ 140737488355328 := by omega
      have hszr := hBr.size
      have HL := Hid.mk (And.intro hown hBr)
      clear hBr
      have hall : Hid ((msgsOf l ++ tl.data.toList).length ≤ 16777216) := by
        show _ ≤ _
        have e1 : (msgsOf l ++ tl.data.toList).length = (msgsOf l).length + tl.data.toList.length := List.length_append
        have e2 : tl.data.toList.length = tl.size := Array.length_toList
        omega
      generalize hAll : msgsOf l ++ tl.data.toList = all at hall
      have HAL := Hid.mk hAll
      clear hAll
      go_wp2_with (at_builtin; refine wpList_append_str rfl _ _ rfl w2.heap.size _ _ rfl hown tl rfl hlA hszr ?_; intro rB nB cB w3 ho3 hg3; have hB3 : Below w2.heap.size w2 w3 := HL.out.2.grown hg3 hszr (fun g hg => (hown.lt g hg).1); have hT3 := Two.below api HB.out.1 hB3; have da := (cells3 hT3.one.cell).1; rw [HAL.out] at ho3; have HP := Hid.mk (And.intro hT3 (And.intro ho3 (HB.out.2.1.trans (hB3.mono HB.out.2.1.size)))); clear hT3 ho3 hg3 hB3)
      have hBs := HB.out.2.1.size
      refine (api.feed a Ga s0 _ all w3 HP.out.1.one.at_ (HP.out.2.1.rd (fun g hg h => by have := (HP.out.2.1.lt g hg).1; have := House.lt api HB.out.1.one g (.inr (.inl h)); omega)) (room_feed s0 HB.out.2.2 all hall.out).1 (room_feed s0 HB.out.2.2 all hall.out).2).mono ?_
      rintro e w4 ⟨Ga', rfl, hat4, hG4, hfr4⟩
      have hT4 := (HP.out.1.symm.step api hat4 hfr4 hG4).symm
      have hrd4 : Rd w4 Gb (.slice rB nB cB) all := by
        have h3 := HP.out.2.1.keep (w' := w4) (fun g hg => hfr4.block g (HP.out.2.1.lt g hg).2 (fun h => by have := (HP.out.2.1.lt g hg).1; have := House.lt api HB.out.1.one g (.inr (.inl h)); omega))
        exact h3.rd (fun g hg h => by have := (h3.lt g hg).1; have := House.lt api HB.out.1.two g (.inr (.inl h)); omega)
      have hB4 : Below w.heap.size w w4 := HP.out.2.2.trans (hfr4.below HP.out.2.2.size HF0.out.1)
      have hGa : ∀ k, Ga' k → w.heap.size ≤ k := fun k hk => by
        rcases hG4 k hk with h | h
        · exact HF0.out.1 k h
        · have := HP.out.2.2.size; omega
      have HT4 := Hid.mk (And.intro hT4 (And.intro hrd4 hB4))
      have HGa := Hid.mk hGa
      clear hT4 hrd4 hat4 hG4 hfr4 da HL hown hB4 hGa HP
      go_wp2_with fail
      go_loopw [16, 17] (fun rv i wl => ∃ (k c : Nat) (Gb' : Nat → Prop), k ≤ cuts.length ∧ i = .int .i64 k ∧ Hid (c ≤ all.length ∧ Two At wl ha a Ga' voa vta (s0.feed all) hb b Gb' vob vtb (s0.feed (all.take c)) ∧ Rd wl Gb' rv (all.drop c) ∧ Below w.heap.size w wl ∧ ∀ k, Gb' k → w.heap.size ≤ k)) (fun _ i _ => cuts.length - (intOf i).toNat)
      case atStart => exact ⟨0, 0, Gb, Nat.zero_le _, rfl, ⟨Nat.zero_le _, HT4.out.1, HT4.out.2.1, HT4.out.2.2, HF0.out.2⟩⟩
      case round =>
        obtain ⟨kc, c, Gb', hkc, rfl, HR⟩ := hrel
        clear HT4
        by_cases hlt2 : kc < cuts.length
        · obtain ⟨cv, hcv⟩ : ∃ a, cuts[kc]? = some a := ⟨_, List.getElem?_eq_getElem hlt2⟩
          obtain ⟨⟨cv1, cv2⟩, gc, oc, rfl, hgc, hcc⟩ := HCC.out kc cv hcv
          have dcut := (HR.out.2.2.2.1.cell (p := ⟨gc, oc + kc, none⟩) hgc).trans hcc
          have db := (cells3 HR.out.2.1.two.cell).1
          have i1 : (0 : Int) ≤ (kc : Int) := by omega
          have i2 : (kc : Int) < (cuts.length : Int) := by omega
          clear hcv hcc
          rcases HR.out.2.2.1 with ⟨rfl, hnil⟩ | ⟨g, o, cap, rfl, hlie, hc1, hc2, hgf, hgl⟩
          · have HFD : Hid ((s0.feed (all.take c)).feed [] = s0.feed (all.take c) ∧ all.drop c = []) := ⟨rfl, hnil⟩
            have HAT : Hid (At wr.drew b Gb' (s0.feed (all.take c))) := api.keep (w' := wr.drew) HR.out.2.1.two.at_ (fun k hk => rfl)
            have nH : ¬ Gb' hb := HR.out.2.1.two.hG
            have HRM : Hid ((s0.feed (all.take c)).ans.length ≤ big ∧ (s0.feed (all.take c)).tape.length ≤ big) := room_feed s0 HB.out.2.2 _ (by rw [List.length_take]; have := hall.out; omega)
            clear hnil
            have hp0 : pick cv 1 = 0 := by have := pick_lt cv 1 (by decide); omega
            have hsel : cv < 0 ∨ ¬ cv < 0 := by omega
            rcases hsel with s1 | s1
            all_goals
              go_wp2_with fail
              refine (pick_any cv 1 _ cv1 cv2 (by omega) (by omega)).mono ?_
              rintro e w' ⟨rfl, hw⟩
              replace hw := hw.symm
              subst hw
              rw [show (1 : Int).toNat = 1 from rfl, hp0]
              go_wp2_with fail
              go_region_held3 (fun w' => w'.cell? ⟨hb, 0, none⟩ = some (.pointer (some ⟨b, 0, none⟩))) (first | exact q1 | go_keep)
                (first | (go_at_call 12; refine (api.feed b Gb' _ _ [] _ HAT.out (.inl ⟨rfl, rfl⟩) HRM.out.1 HRM.out.2).mono ?_; rintro e w6 ⟨G6, rfl, hat6, hG6, hfr6⟩; have q1 : w6.cell? ⟨hb, 0, none⟩ = some (.pointer (some ⟨b, 0, none⟩)) := hfr6.cell (w := wr.drew) db nH))
              rw [HFD.out.1] at hat6
              have HP6 := Hid.mk (And.intro hat6 (And.intro hG6 hfr6))
              clear hat6 hG6 hfr6 db nH HAT HRM
              go_wp2_with fail
              obtain ⟨hat6, hG6, hfr6⟩ := HP6.out
              refine ⟨⟨kc + 1, c, G6, by omega, by go_num, ⟨HR.out.1, HR.out.2.1.step api hat6 ((Fr.drew Gb' wr).then hfr6) hG6, .inl ⟨rfl, HFD.out.2⟩, HR.out.2.2.2.1.trans (((Fr.drew Gb' wr).then hfr6).below HR.out.2.2.2.1.size HR.out.2.2.2.2), ?_⟩⟩, by simp [intOf]; omega⟩
              intro k hk
              rcases hG6 k hk with h | h
              · exact HR.out.2.2.2.2 k h
              · have hz : wr.heap.size ≤ k := h
                have := HR.out.2.2.2.1.size; omega
          · generalize hM : (all.drop c).length = m at *
            have HD := Hid.mk (And.intro hlie (And.intro hgf (And.intro hgl hM)))
            have m1 : (m : Int) ≤ 16777216 := by have := hall.out; have : m ≤ all.length := by rw [← hM, List.length_drop]; omega
                                                 omega
            have m2 : (m : Int) ≤ (cap : Int) := by omega
            have m3 : (cap : Int) ≤ 9223372036854775807 := by unfold maxLen at hc2; omega
            clear hlie hgf hgl hM hc1 hc2
            go_wp2_with fail
            refine (pick_any cv ((m : Int) + 1) _ cv1 cv2 (by omega) (by omega)).mono ?_
            rintro e w' ⟨rfl, hw⟩
            replace hw := hw.symm
            subst hw
            rw [show ((m : Int) + 1).toNat = m + 1 by omega]
            have n0lt := pick_lt cv (m + 1) (by omega)
            generalize pick cv (m + 1) = n0 at *
            obtain ⟨nf, hnf1, hsel⟩ : ∃ nf : Nat, nf ≤ m ∧ ((cv < 0 ∧ (n0 : Int) > 3 ∧ (1 : Int) ≤ (cap : Int) ∧ (1 : Int) ≤ (m : Int) ∧ nf = 1) ∨ (cv < 0 ∧ ¬ (n0 : Int) > 3 ∧ nf = n0) ∨ (¬ cv < 0 ∧ nf = n0)) := by
              by_cases hc : cv < 0
              · by_cases h3 : (n0 : Int) > 3
                · exact ⟨1, by omega, .inl ⟨hc, h3, by omega, by omega, rfl⟩⟩
                · exact ⟨n0, by omega, .inr (.inl ⟨hc, h3, rfl⟩)⟩
              · exact ⟨n0, by omega, .inr (.inr ⟨hc, rfl⟩)⟩
            have HFD : Hid (Rd wr.drew Gb' (.slice (some ⟨g, o, none⟩) nf cap) ((all.drop c).take nf) ∧ (s0.feed (all.take c)).feed ((all.drop c).take nf) = s0.feed (all.take (c + nf)) ∧ c + nf ≤ all.length) := by
              obtain ⟨hlie, hgf, hgl, hM⟩ := HD.out
              refine ⟨.inr ⟨g, o, cap, by rw [List.length_take, hM, Nat.min_eq_left hnf1], hlie.take nf, by rw [List.length_take, hM, Nat.min_eq_left hnf1]; omega, by unfold maxLen; omega, hgf, hgl⟩, ?_, ?_⟩
              · rw [← feed_append, List.take_add]
              · rw [List.length_drop] at hM; have := HR.out.1; omega
            have HAT : Hid (At wr.drew b Gb' (s0.feed (all.take c))) := api.keep (w' := wr.drew) HR.out.2.1.two.at_ (fun k hk => rfl)
            have nH : ¬ Gb' hb := HR.out.2.1.two.hG
            have HRM : Hid ((s0.feed (all.take (c + nf))).ans.length ≤ big ∧ (s0.feed (all.take (c + nf))).tape.length ≤ big) := room_feed s0 HB.out.2.2 _ (by rw [List.length_take]; have := hall.out; omega)
            have hnf2 : (nf : Int) ≤ (cap : Int) := by omega
            have hnf3 : (0 : Int) ≤ (nf : Int) := by omega
            have hnf4 : (nf : Int) ≤ (m : Int) := by omega
            rcases hsel with ⟨s1, s2, s3, s4, rfl⟩ | ⟨s1, s2, rfl⟩ | ⟨s1, rfl⟩
            all_goals
              go_wp2_with fail
              go_region_held3 (fun w' => w'.cell? ⟨hb, 0, none⟩ = some (.pointer (some ⟨b, 0, none⟩))) (first | exact q1 | go_keep)
                (first | (go_at_call 12; refine (api.feed b Gb' _ _ _ _ HAT.out HFD.out.1 (by rw [HFD.out.2.1]; exact HRM.out.1) (by rw [HFD.out.2.1]; exact HRM.out.2)).mono ?_; rintro e w6 ⟨G6, rfl, hat6, hG6, hfr6⟩; have q1 : w6.cell? ⟨hb, 0, none⟩ = some (.pointer (some ⟨b, 0, none⟩)) := hfr6.cell (w := wr.drew) db nH))
              rw [HFD.out.2.1] at hat6
              have HP6 := Hid.mk (And.intro hat6 (And.intro hG6 hfr6))
              clear hat6 hG6 hfr6 db nH HAT HRM
              go_wp2_with fail
              obtain ⟨hat6, hG6, hfr6⟩ := HP6.out
              obtain ⟨hlie, hgf, hgl, hM⟩ := HD.out
              have hrd := rd_rest (cap := cap) (w := wr.drew) (G' := G6) hlie (by rw [hM]; exact hnf1) (by omega) (by unfold maxLen; omega) hgf hgl hfr6 hG6
              rw [hM, List.drop_drop] at hrd
              refine ⟨⟨kc + 1, _, G6, by omega, by go_num, ⟨HFD.out.2.2, HR.out.2.1.step api hat6 ((Fr.drew Gb' wr).then hfr6) hG6, (by first | exact hrd | (rw [if_neg (by omega)] at hrd; exact hrd)), HR.out.2.2.2.1.trans (((Fr.drew Gb' wr).then hfr6).below HR.out.2.2.2.1.size HR.out.2.2.2.2), ?_⟩⟩, by simp [intOf]; omega⟩
              intro k hk
              rcases hG6 k hk with h | h
              · exact HR.out.2.2.2.2 k h
              · have hz : wr.heap.size ≤ k := h
                have := HR.out.2.2.2.1.size; omega
        · have hfin : (s0.feed (all.take c)).feed (all.drop c) = s0.feed all := by rw [← feed_append, List.take_append_drop]
          have db := (cells3 HR.out.2.1.two.cell).1
          obtain ⟨rr, mr, cr, rfl⟩ : ∃ rr mr cr, u16 = .slice rr mr cr := by
            rcases HR.out.2.2.1 with ⟨h, -⟩ | ⟨g, o, cap, h, -⟩
            · exact ⟨_, _, _, h⟩
            · exact ⟨_, _, _, h⟩
          have HFN := Hid.mk hfin
          clear hfin
          go_wp2_with fail
          refine (api.feed b Gb' _ _ _ _ HR.out.2.1.two.at_ HR.out.2.2.1 (by rw [HFN.out]; exact (room_feed s0 HB.out.2.2 all hall.out).1) (by rw [HFN.out]; exact (room_feed s0 HB.out.2.2 all hall.out).2)).mono ?_
          rintro e w6 ⟨G6, rfl, hat6, hG6, hfr6⟩
          rw [HFN.out] at hat6
          have hT6 := HR.out.2.1.step api hat6 hfr6 hG6
          have hB6 : Below w.heap.size w w6 := HR.out.2.2.2.1.trans (hfr6.below HR.out.2.2.2.1.size HR.out.2.2.2.2)
          have hG6' : ∀ k, G6 k → w.heap.size ≤ k := fun k hk => by
            rcases hG6 k hk with h | h
            · exact HR.out.2.2.2.2 k h
            · have := HR.out.2.2.2.1.size; omega
          have d1 := (cells3 hT6.one.cell).1
          have d2 := (cells3 hT6.two.cell).1
          have H6 := Hid.mk (And.intro hT6 (And.intro hB6 hG6'))
          clear hat6 hG6 hfr6 hT6 hB6 hG6' db HR
          have HG6 : Hid (∀ k, G6 k → w.heap.size ≤ k) := H6.out.2.2
          generalize s0.feed all = sf at H6
          go_wp2_with fail
          refine (api.look a Ga' _ _ H6.out.1.one.at_).mono ?_
          rintro e w7 ⟨rfl, hb7⟩
          have hT7 := H6.out.1.below api hb7
          replace d1 := (cells3 hT7.one.cell).1
          replace d2 := (cells3 hT7.two.cell).1
          have H7 := Hid.mk (And.intro hT7 (H6.out.2.1.trans (hb7.mono H6.out.2.1.size)))
          clear hT7 hb7
          rw [viewOf]
          have hB7 : Below w7.heap.size w7 (w7.alloc (.cells #[.int .i64 sf.time, .int .i64 sf.resting, .bool sf.opn, .int .i64 sf.part.length] 37)) := (Below.refl _ _).alloc (Nat.le_refl _) _
          have hT7 := H7.out.1.below api hB7
          have e1 := (cells3 hT7.one.cell).1
          have e2 := (cells3 hT7.two.cell).1
          have H7b := Hid.mk (And.intro hT7 (And.intro (H7.out.2.trans (hB7.mono H7.out.2.size)) (H7.out.1.fresh api (.cells #[.int .i64 sf.time, .int .i64 sf.resting, .bool sf.opn, .int .i64 sf.part.length] 37)).1))
          have HX7 : Hid ((w7.alloc (.cells #[.int .i64 sf.time, .int .i64 sf.resting, .bool sf.opn, .int .i64 sf.part.length] 37)).heap[w7.heap.size]? = some (.cells #[.int .i64 sf.time, .int .i64 sf.resting, .bool sf.opn, .int .i64 sf.part.length] 37)) := by show _ = _; rw [heap_alloc, if_pos rfl]
          clear hT7 hB7 d1 d2
          go_wp2_with fail
          refine (api.look b G6 _ _ H7b.out.1.two.at_).mono ?_
          rintro e w8 ⟨rfl, hb8⟩
          rw [viewOf]
          have hT8 := H7b.out.1.below api hb8
          have hF8 := H7b.out.2.2.below hb8
          have hX8 := hF8.2.trans HX7.out
          have hB8 : Below w8.heap.size w8 (w8.alloc (.cells #[.int .i64 sf.time, .int .i64 sf.resting, .bool sf.opn, .int .i64 sf.part.length] 37)) := (Below.refl _ _).alloc (Nat.le_refl _) _
          have hT9 := hT8.below api hB8
          have d1 := (cells3 hT9.one.cell).1
          have d2 := (cells3 hT9.two.cell).1
          have hF9 := hF8.1.below hB8
          have hX9 := hF9.2.trans hX8
          have H8 := Hid.mk (And.intro hT9 (And.intro ((H7b.out.2.1.trans (hb8.mono H7b.out.2.1.size)).trans (hB8.mono (Nat.le_trans H7b.out.2.1.size hb8.size))) (And.intro hF9.1 (And.intro hX9 (hT8.fresh api (.cells #[.int .i64 sf.time, .int .i64 sf.resting, .bool sf.opn, .int .i64 sf.part.length] 37))))))
          clear hT8 hF8 hX8 hB8 hT9 hF9 hX9 e1 e2 hb8 HX7 H7 H7b H6
          have HZ : Hid (Fin2 At w _ ha a Ga' voa vta sf hb b G6 vob vtb sf w7.heap.size w8.heap.size (.cells #[.int .i64 sf.time, .int .i64 sf.resting, .bool sf.opn, .int .i64 sf.part.length] 37)) :=
            ⟨H8.out.1, H8.out.2.1, HGa.out, HG6.out, H8.out.2.2.1, H8.out.2.2.2.1, H8.out.2.2.2.2.1, H8.out.2.2.2.2.2⟩
          clear H8
          generalize w7.heap.size = vx at *
          go_wp2_with fail
          refine (api.answers a Ga' _ _ HZ.out.two.one.at_).mono ?_
          rintro e w9 ⟨vp, Ga9, rfl, hop, hat9, hG9, hvp, hfr9⟩
          have hz9 := HZ.out.one api hat9 hfr9 hG9
          have hp9 := Gave.of_one api HZ.out.two hop hvp
          generalize w8.heap.size = wx at *
          have HZ9 := Hid.mk (And.intro hz9 hp9)
          obtain ⟨rp, cp, rfl, -, -⟩ := hop.len
          replace d1 := (cells3 hz9.two.one.cell).1
          replace d2 := (cells3 hz9.two.two.cell).1
          clear hat9 hG9 hfr9 hop hvp hz9 hp9 HZ
          go_wp2_with fail
          refine (api.answers b G6 _ _ HZ9.out.1.two.two.at_).mono ?_
          rintro e w10 ⟨vq, Gb10, rfl, hop, hat9, hG9, hvp, hfr9⟩
          have hz9 := HZ9.out.1.oth api hat9 hfr9 hG9
          have hq9 := Gave.of_two api HZ9.out.1.two hop hvp
          have hp9 := HZ9.out.2.two hfr9 hG9
          have HZ10 := Hid.mk (And.intro hz9 (And.intro hp9 hq9))
          obtain ⟨rq, cq, rfl, -, -⟩ := hop.len
          replace d1 := (cells3 hz9.two.one.cell).1
          replace d2 := (cells3 hz9.two.two.cell).1
          clear hat9 hG9 hfr9 hop hvp hz9 hp9 hq9 HZ9
          go_wp2_with fail
          refine (api.tape a Ga9 _ _ HZ10.out.1.two.one.at_).mono ?_
          rintro e w11 ⟨vr, Ga11, rfl, hop, hat9, hG9, hvp, hfr9⟩
          have hz9 := HZ10.out.1.one api hat9 hfr9 hG9
          have hr9 := Gave.of_one api HZ10.out.1.two hop hvp
          have hp9 := HZ10.out.2.1.one hfr9 hG9
          have hq9 := HZ10.out.2.2.one hfr9 hG9
          have HZ11 := Hid.mk (And.intro hz9 (And.intro hp9 (And.intro hq9 hr9)))
          obtain ⟨rr', cr', rfl, -, -⟩ := hop.len
          replace d1 := (cells3 hz9.two.one.cell).1
          replace d2 := (cells3 hz9.two.two.cell).1
          clear hat9 hG9 hfr9 hop hvp hz9 hp9 hq9 hr9 HZ10
          go_wp2_with fail
          refine (api.tape b Gb10 _ _ HZ11.out.1.two.two.at_).mono ?_
          rintro e w12 ⟨vs, Gb12, rfl, hop, hat9, hG9, hvp, hfr9⟩
          have hz9 := HZ11.out.1.oth api hat9 hfr9 hG9
          have hs9 := Gave.of_two api HZ11.out.1.two hop hvp
          have hp9 := HZ11.out.2.1.two hfr9 hG9
          have hq9 := HZ11.out.2.2.1.two hfr9 hG9
          have hr9 := HZ11.out.2.2.2.two hfr9 hG9
          obtain ⟨rs', cs', rfl, -, -⟩ := hop.len
          obtain ⟨v0, v1, v2, v3⟩ := cells4 hz9.xv
          obtain ⟨x0, x1, x2, x3⟩ := cells4 hz9.xw
          have t1 := hp9.str
          have t2 := hq9.str
          have t3 := hr9.str
          have t4 := hs9.str
          have HE := Hid.mk hz9.below
          clear hat9 hG9 hfr9 hop hvp hz9 hp9 hq9 hr9 hs9 HZ11 d1 d2
          go_wp2_with fail
          go_ret
          exact ⟨rfl, HE.out⟩

end Go.Proofs.Ytphkchjejbffeaa

/- The law Chunked as it is stated for what is not too great, out of what the calls do. -/
namespace Go.Proofs.Ytphkchjejbffeaa
open Go.ChangeShapes Go.WideShapes Go.ChangeAt Go.RowKit
open Go.ChangeMaps (open_string shut_string)

set_option maxRecDepth 100000 in
theorem chunked_lifted {At : World → Nat → (Nat → Prop) → St → Prop} (api : Api At) (os : Os) (started : os.Started) (H : Type) (enc : TypeId × Value → H) (F : Stop.Interp) :
    ReturnsInHanded {} Try.checked os 8 .any ((Rows.OpenSpec.upto Rows.chunkedSpec).pre6 enc Try.prog Try.f8 Rows.chunkedUptoRow.domain false) (((Rows.OpenSpec.upto Rows.chunkedSpec).at F).post enc Try.prog Try.f8 false true false false) := by
  refine returnsInHanded_of_cond (C := Try.checked) (s := Rows.OpenSpec.upto Rows.chunkedSpec) (k := Rows.uptoSmall) rfl own started (by kernel_rfl) Try.func8
    (OpenSpec.witness (enc := enc) (C := Try.checked) (s := Rows.OpenSpec.upto Rows.chunkedSpec) (k := Rows.uptoSmall) rfl false ⟨#[], #[.int .i64 0, .slice none 0 0, .slice none 0 0, .string .empty], []⟩ 8 (by kernel_rfl) (by kernel_rfl) (by kernel_rfl)
      (x := ([.lit (.int .i64 0), .nil, .nil, .lit (.string [])], [], [])) (by kernel_rfl) rfl (by kernel_rfl)) ?_
  intro W base args ds gs before hval0 hW _ hk0 _
  have hval : ∀ (j : Nat) t v, Try.f8.params[j]? = some t → args[j]? = some v → Value.okWide Try.prog W .any base t v := hval0
  have hk : Rows.uptoSmall H (ds ++ gs) = true := hk0
  have hW' := hW
  obtain ⟨p, q, hA0, hV, rfl, hfz, hnd⟩ := hW
  have hA : DataW.TrodAll enc Try.prog W 0 (fun _ => true) true Try.f8.params.toList args.toList ds p := hA0
  rw [Try.params8] at hA hval
  obtain ⟨v0, vs0, d0, ds0, p0, q0, hargs, rfl, rfl, h0, r0⟩ := trodAll_cons hA
  obtain ⟨v1, vs1, d1, ds1, p1, q1, rfl, rfl, rfl, h1, r1⟩ := trodAll_cons r0
  obtain ⟨v2, vs2, d2, ds2, p2, q2, rfl, rfl, rfl, h2, r2⟩ := trodAll_cons r1
  obtain ⟨v3, vs3, d3, ds3, p3, q3, rfl, rfl, rfl, h3, r3⟩ := trodAll_cons r2
  obtain ⟨rfl, rfl, rfl⟩ := trodAll_nil r3
  obtain rfl : args = #[v0, v1, v2, v3] := by cases args; simp_all
  obtain ⟨rfl, rfl⟩ := trodVars_none hV
  obtain ⟨pool, rfl, rfl, rfl, w0⟩ := open_int Try.underlying3 (hval 0 3 v0 rfl rfl) h0
  obtain ⟨a1, len1, cap1, rfl⟩ := okWide_slice Try.underlying40 (hval 1 40 v1 rfl rfl)
  obtain ⟨a2, len2, cap2, rfl⟩ := okWide_slice Try.underlying22 (hval 2 22 v2 rfl rfl)
  obtain ⟨tl, rfl, rfl, rfl, hmax⟩ := open_string Try.underlying9 (hval 3 9 v3 rfl rfl) h3
  have k1 := h1
  have k2 := h2
  have lt1 : ∀ x ∈ p1, x.block < W.heap.size := by obtain ⟨m, hm⟩ := k1; exact DataW.trod_lt m _ _ _ hm
  have lt2 : ∀ x ∈ p2, x.block < W.heap.size := by obtain ⟨m, hm⟩ := k2; exact DataW.trod_lt m _ _ _ hm
  have hb := bulk_bound hk
  obtain ⟨l, hl, hn⟩ : ∃ l : List Act, ActsAt W (.slice a1 len1 cap1) l ∧ l.length ≤ 1048576 := by
    obtain ⟨fuel, hf⟩ := h1
    obtain ⟨l, hl, hd⟩ := open_acts (by simpa [Value.cells] using hf)
    refine ⟨l, hl, ?_⟩
    rcases hd with ⟨rfl, -⟩ | ⟨es, sp, hd, hlen⟩
    · simp
    · simp only at hd
      have h1 := bulk_slice es sp
      rw [← hd] at h1
      have h2 := bulk_part (d := d1) (l := [DataW.lit (.int .i64 pool), d1, d2, DataW.lit (.string tl.data.toList)] ++ []) (by simp)
      omega
  obtain ⟨cuts, hc⟩ : ∃ cuts : List Int, IntsAt W (.slice a2 len2 cap2) cuts := by
    obtain ⟨fuel, hf⟩ := h2
    obtain ⟨l, hl, -⟩ := open_ints (by simpa [Value.cells] using hf)
    exact ⟨l, hl⟩
  have ht : tl.size ≤ 1048576 := by
    have h2 := bulk_part (d := DataW.lit (H := H) (.string tl.data.toList)) (l := [DataW.lit (.int .i64 pool), d1, d2, DataW.lit (.string tl.data.toList)] ++ []) (by simp)
    have e : tl.data.toList.length = tl.size := Array.length_toList
    simp only [Rows.uptoBulk] at h2
    omega
  have hw := wf_i64 w0
  clear hA0 hval0 hb hk0
  refine (chunked_any api pool _ l _ cuts tl W hw.1 hw.2 hl hn hc ht).mono fun e W' ⟨he, bel⟩ => ?_
  subst he
  exact ⟨_, rfl, _, _, _, [], _, [], hW', trodAll_mk1 (shut_bool Try.underlying4 _), (trodAll_cons_mk (shut_int Try.underlying3 w0) (trodAll_cons_mk (Below.trod laidOut (by kernel_rfl) (of_decide_eq_true (by kernel_rfl)) k1 bel lt1) (trodAll_cons_mk (Below.trod laidOut (by kernel_rfl) (of_decide_eq_true (by kernel_rfl)) k2 bel lt2) (trodAll_cons_mk (shut_string Try.underlying9 hmax) trodAll_mk0)))), rfl, bel.frame _, fun h => by cases h⟩

theorem chunked_said {At : World → Nat → (Nat → Prop) → St → Prop} (api : Api At) : Rows.ChunkedUptoSaid :=
  OpenClaim.holds_of_cond 8 Try.f8 rfl rfl rfl rfl rfl rfl rfl ⟨rfl, rfl, rfl, rfl, rfl⟩ rfl rfl rfl rfl rfl (by kernel_rfl) Try.func8 (by kernel_rfl)
    (of_decide_eq_true (by kernel_rfl)) (by unfold Func.isWrapper; first | (rw [if_pos (by decide +kernel)]; kernel_rfl) | (rw [if_neg (by decide +kernel)]; exact ⟨rfl, rfl⟩))
    (fun os started H enc _ F => chunked_lifted api os started H enc F)

end Go.Proofs.Ytphkchjejbffeaa

/- The walks of package field. -/
namespace Go.Proofs.Ytphkchjejbffeaa
open Go.RowKit

set_option maxRecDepth 100000 in
set_option maxHeartbeats 400000 in
theorem len64_32 (w : World) : Calls Try.prog 145 #[.int .u64 4294967295] w fun e w' => e = .returned (.int .i64 32) ∧ w' = w := by
  go_enter Try.func145, Try.ntmps145
  go_wp2
  go_ret
  refine ⟨?_, rfl⟩
  show Ending.returned (.int .i64 _) = _
  exact ret_int (by decide +kernel)
set_option maxRecDepth 100000 in
set_option maxHeartbeats 400000 in
theorem len64_16 (w : World) : Calls Try.prog 145 #[.int .u64 65535] w fun e w' => e = .returned (.int .i64 16) ∧ w' = w := by
  go_enter Try.func145, Try.ntmps145
  go_wp2
  go_ret
  refine ⟨?_, rfl⟩
  show Ending.returned (.int .i64 _) = _
  exact ret_int (by decide +kernel)
set_option maxRecDepth 100000 in
set_option maxHeartbeats 400000 in
theorem len64_8 (w : World) : Calls Try.prog 145 #[.int .u64 255] w fun e w' => e = .returned (.int .i64 8) ∧ w' = w := by
  go_enter Try.func145, Try.ntmps145
  go_wp2
  go_ret
  refine ⟨?_, rfl⟩
  show Ending.returned (.int .i64 _) = _
  exact ret_int (by decide +kernel)

theorem ones32 : IntKind.u64.wrap (bits BinOp.xor IntKind.u32 IntKind.u32.max 0) = 4294967295 := by decide +kernel
theorem ones16 : IntKind.u64.wrap (bits BinOp.xor IntKind.u16 IntKind.u16.max 0) = 65535 := by decide +kernel
theorem ones8 : IntKind.u64.wrap (bits BinOp.xor IntKind.u8 IntKind.u8.max 0) = 255 := by decide +kernel

set_option maxRecDepth 100000 in
set_option maxHeartbeats 400000 in
theorem width32 (w : World) : Calls Try.prog 122 #[] w fun e w' => e = .returned (.int .i64 4) ∧ w' = w := by
  go_enter Try.func122, Try.ntmps122
  go_wp2_with fail
  rw [ones32]
  refine (len64_32 w).mono ?_
  rintro e w' ⟨rfl, rfl⟩
  go_wp2
  go_ret
  exact ⟨rfl, rfl⟩
set_option maxRecDepth 100000 in
set_option maxHeartbeats 400000 in
theorem width16 (w : World) : Calls Try.prog 124 #[] w fun e w' => e = .returned (.int .i64 2) ∧ w' = w := by
  go_enter Try.func124, Try.ntmps124
  go_wp2_with fail
  rw [ones16]
  refine (len64_16 w).mono ?_
  rintro e w' ⟨rfl, rfl⟩
  go_wp2
  go_ret
  exact ⟨rfl, rfl⟩
set_option maxRecDepth 100000 in
set_option maxHeartbeats 400000 in
theorem width8 (w : World) : Calls Try.prog 123 #[] w fun e w' => e = .returned (.int .i64 1) ∧ w' = w := by
  go_enter Try.func123, Try.ntmps123
  go_wp2_with fail
  rw [ones8]
  refine (len64_8 w).mono ?_
  rintro e w' ⟨rfl, rfl⟩
  go_wp2
  go_ret
  exact ⟨rfl, rfl⟩

/-- Bytes were put behind others: v was l, v' is l'. -/
structure Puts (w w' : World) (v v' : Value) (l' : List UInt8) : Prop where
  own : Own w' 0 v' l'
  fr : Fr (fun k => v.ownBlock = some k) w w'
  at_ : v'.ownBlock = v.ownBlock ∨ ∃ g, v'.ownBlock = some g ∧ w.heap.size ≤ g

theorem Puts.refl {w : World} {v : Value} {l : List UInt8} (h : Own w 0 v l) : Puts w w v v l := ⟨h, Fr.refl _ _, .inl rfl⟩
theorem Puts.trans {a b c : World} {u v x : Value} {l m : List UInt8} (h : Puts a b u v l) (k : Puts b c v x m) : Puts a c u x m := by
  refine ⟨k.own, h.fr.trans k.fr ?_, ?_⟩
  · intro i hi hv
    rcases h.at_ with e | ⟨g, e, hg⟩
    · rw [← e]; exact hv
    · rw [e] at hv; cases hv; omega
  · rcases k.at_ with e | ⟨g, e, hg⟩
    · rcases h.at_ with e' | ⟨g, e', hg⟩
      · exact .inl (e.trans e')
      · exact .inr ⟨g, e.trans e', hg⟩
    · exact .inr ⟨g, e, Nat.le_trans h.fr.size hg⟩
theorem Puts.cast {w w' : World} {v v' : Value} {l l' : List UInt8} (h : Puts w w' v v' l) (e : l = l') : Puts w w' v v' l' := e ▸ h

theorem enc_take (n size j : Nat) (h : j < size) : (enc n size).take (j + 1) = (enc n size).take j ++ [UInt8.ofNat (n / 256 ^ (size - 1 - j))] := by
  have hl : j < (enc n size).length := by rw [enc_length]; exact h
  rw [List.take_succ_eq_append_getElem hl]
  congr 2
  have := enc_get n size (size - 1 - j) (by omega)
  rw [show size - 1 - (size - 1 - j) = j by omega, List.getElem?_eq_getElem hl] at this
  exact Option.some.inj this

theorem byte_of (n k : Nat) : (n : Int) / 2 ^ (8 * k) % 256 = ((UInt8.ofNat (n / 256 ^ k)).toNat : Int) := by
  have e : (2 : Int) ^ (8 * k) = ((256 ^ k : Nat) : Int) := by
    have h : (2 : Nat) ^ (8 * k) = 256 ^ k := by rw [Nat.pow_mul]
    rw [← h]; simp
  rw [UInt8.toNat_ofNat', e, ← Int.natCast_ediv]
  omega

/-- One append more. -/
theorem Puts.app {w wr w2 : World} {v x v2 : Value} {m l2 : List UInt8} {o : Obj} (h : Puts w wr v x m) (ho : Own w2 0 v2 l2) (hg : (wr.alloc o).grownBy w2 x.ownBlock)
    (hv : v2.ownBlock = x.ownBlock ∨ v2.ownBlock = some (wr.alloc o).heap.size) : Puts w w2 v v2 l2 := by
  refine h.trans ⟨ho, ?_, ?_⟩
  · exact (Fr.alloc _ wr o).trans (Fr.of_grown hg) (fun i _ e => e.symm)
  · rcases hv with e | e
    · exact .inl e
    · exact .inr ⟨_, e, by rw [size_alloc]; omega⟩

theorem own_alloc {w : World} {b : Nat} {v : Value} {l : List UInt8} (h : Own w b v l) (o : Obj) : Own (w.alloc o) b v l :=
  h.keep (fun g hg => by rw [heap_alloc, if_neg (by have := (Own.lt h g hg).2; omega)])

set_option maxRecDepth 100000 in
set_option maxHeartbeats 600000 in
theorem putLow64 (v : Value) (l : List UInt8) (n size : Nat) (w : World) (ho : Own w 0 v l) (_hn : n < 18446744073709551616) (hs : size ≤ 8) (hl : l.length + 8 ≤ 140737488355328) :
    Calls Try.prog 109 #[v, .int .u64 n, .int .i64 size] w fun e w' => ∃ v', e = .returned v' ∧ Puts w w' v v' (l ++ enc n size) := by
  go_enter Try.func109, Try.ntmps109
  go_wp2
  go_loopw [0, 7] (fun x i wr => ∃ j : Nat, j ≤ size ∧ i = .int .i64 ((size : Int) - 1 - j) ∧ Puts w wr v x (l ++ (enc n size).take j)) (fun _ i _ => (intOf i + 1).toNat)
  case atStart => exact ⟨0, by omega, by simp, by simpa using Puts.refl ho⟩
  case round =>
    obtain ⟨j, hj, rfl, hp⟩ := hrel
    have HP := Hid.mk hp
    clear hp
    by_cases hlt : j < size
    · have h1 : (0 : Int) ≤ (size : Int) - 1 - j := by omega
      have h2 : (size : Int) - 1 - j < 8 := by omega
      have hown := fun o : Obj => own_alloc HP.out.own o
      have HO := Hid.mk hown
      have hlen : (l ++ (enc n size).take j).length + 1 ≤ 140737488355328 := by
        rw [List.length_append, List.length_take, enc_length]; omega
      have HLen := Hid.mk hlen
      have HT := Hid.mk (enc_take n size j hlt)
      have HB := Hid.mk (byte_of n (size - 1 - j))
      clear hown hlen
      go_wp2_with (at_builtin; go_must (refine wpList_append_rd rfl _ _ rfl 0 _ (l ++ (enc n size).take j) rfl (HO.out _) _ [UInt8.ofNat (n / 256 ^ (size - 1 - j))] rfl (fun _ => False) (rd_one wr _ _ HB.out _ (fun h => h)) HLen.out (Nat.zero_le _) ?_); intro r2 n2 c2 w2 ho2 hg2 hv2)
      exact ⟨⟨j + 1, by omega, by go_num, by rw [HT.out, ← List.append_assoc]; exact HP.out.app ho2 hg2 hv2⟩, by simp [intOf]; omega⟩
    · go_wp2
      go_ret
      refine ⟨_, rfl, HP.out.cast ?_⟩
      rw [List.take_of_length_le (by rw [enc_length]; omega)]

set_option maxRecDepth 100000 in
set_option maxHeartbeats 600000 in
theorem putLow8 (v : Value) (l : List UInt8) (n size : Nat) (w : World) (ho : Own w 0 v l) (hn : n < 256) (hs : size ≤ 8) (hl : l.length + 8 ≤ 140737488355328) :
    Calls Try.prog 136 #[v, .int .u8 n, .int .i64 size] w fun e w' => ∃ v', e = .returned v' ∧ Puts w w' v v' (l ++ enc n size) := by
  go_enter Try.func136, Try.ntmps136
  go_wp2
  go_loopw [0, 7] (fun x i wr => ∃ j : Nat, j ≤ size ∧ i = .int .i64 ((size : Int) - 1 - j) ∧ Puts w wr v x (l ++ (enc n size).take j)) (fun _ i _ => (intOf i + 1).toNat)
  case atStart => exact ⟨0, by omega, by simp, by simpa using Puts.refl ho⟩
  case round =>
    obtain ⟨j, hj, rfl, hp⟩ := hrel
    have HP := Hid.mk hp
    clear hp
    by_cases hlt : j < size
    · have h1 : (0 : Int) ≤ (size : Int) - 1 - j := by omega
      have h2 : (size : Int) - 1 - j < 8 := by omega
      have hown := fun o : Obj => own_alloc HP.out.own o
      have HO := Hid.mk hown
      have hlen : (l ++ (enc n size).take j).length + 1 ≤ 140737488355328 := by
        rw [List.length_append, List.length_take, enc_length]; omega
      have HLen := Hid.mk hlen
      have HT := Hid.mk (enc_take n size j hlt)
      have HB := Hid.mk (byte_of n (size - 1 - j))
      clear hown hlen
      go_wp2_with (at_builtin; go_must (refine wpList_append_rd rfl _ _ rfl 0 _ (l ++ (enc n size).take j) rfl (HO.out _) _ [UInt8.ofNat (n / 256 ^ (size - 1 - j))] rfl (fun _ => False) (rd_one wr _ _ HB.out _ (fun h => h)) HLen.out (Nat.zero_le _) ?_); intro r2 n2 c2 w2 ho2 hg2 hv2)
      exact ⟨⟨j + 1, by omega, by go_num, by rw [HT.out, ← List.append_assoc]; exact HP.out.app ho2 hg2 hv2⟩, by simp [intOf]; omega⟩
    · go_wp2
      go_ret
      refine ⟨_, rfl, HP.out.cast ?_⟩
      rw [List.take_of_length_le (by rw [enc_length]; omega)]

set_option maxHeartbeats 400000 in
theorem put8 (v : Value) (l : List UInt8) (n : Nat) (w : World) (ho : Own w 0 v l) (hn : n < 256) (hl : l.length + 8 ≤ 140737488355328) :
    Calls Try.prog 110 #[v, .int .u8 n] w fun e w' => ∃ v', e = .returned v' ∧ Puts w w' v v' (l ++ enc n 1) := by
  have HA := Hid.mk (putLow8 v l n 1 w ho hn (by omega) hl)
  clear ho
  go_enter Try.func110, Try.ntmps110
  go_wp2_with (go_at_call 123; refine (width8 w).mono ?_; rintro e w' ⟨rfl, hw⟩; replace hw := hw.symm; subst hw)
  refine HA.out.mono ?_
  rintro e w1 ⟨v1, rfl, hp⟩
  have HP := Hid.mk hp
  clear hp
  go_wp2
  go_ret
  exact ⟨_, rfl, HP.out⟩

set_option maxRecDepth 100000 in
set_option maxHeartbeats 600000 in
theorem putLow16 (v : Value) (l : List UInt8) (n size : Nat) (w : World) (ho : Own w 0 v l) (hn : n < 65536) (hs : size ≤ 8) (hl : l.length + 8 ≤ 140737488355328) :
    Calls Try.prog 144 #[v, .int .u16 n, .int .i64 size] w fun e w' => ∃ v', e = .returned v' ∧ Puts w w' v v' (l ++ enc n size) := by
  go_enter Try.func144, Try.ntmps144
  go_wp2
  go_loopw [0, 7] (fun x i wr => ∃ j : Nat, j ≤ size ∧ i = .int .i64 ((size : Int) - 1 - j) ∧ Puts w wr v x (l ++ (enc n size).take j)) (fun _ i _ => (intOf i + 1).toNat)
  case atStart => exact ⟨0, by omega, by simp, by simpa using Puts.refl ho⟩
  case round =>
    obtain ⟨j, hj, rfl, hp⟩ := hrel
    have HP := Hid.mk hp
    clear hp
    by_cases hlt : j < size
    · have h1 : (0 : Int) ≤ (size : Int) - 1 - j := by omega
      have h2 : (size : Int) - 1 - j < 8 := by omega
      have hown := fun o : Obj => own_alloc HP.out.own o
      have HO := Hid.mk hown
      have hlen : (l ++ (enc n size).take j).length + 1 ≤ 140737488355328 := by
        rw [List.length_append, List.length_take, enc_length]; omega
      have HLen := Hid.mk hlen
      have HT := Hid.mk (enc_take n size j hlt)
      have HB := Hid.mk (byte_of n (size - 1 - j))
      clear hown hlen
      go_wp2_with (at_builtin; go_must (refine wpList_append_rd rfl _ _ rfl 0 _ (l ++ (enc n size).take j) rfl (HO.out _) _ [UInt8.ofNat (n / 256 ^ (size - 1 - j))] rfl (fun _ => False) (rd_one wr _ _ HB.out _ (fun h => h)) HLen.out (Nat.zero_le _) ?_); intro r2 n2 c2 w2 ho2 hg2 hv2)
      exact ⟨⟨j + 1, by omega, by go_num, by rw [HT.out, ← List.append_assoc]; exact HP.out.app ho2 hg2 hv2⟩, by simp [intOf]; omega⟩
    · go_wp2
      go_ret
      refine ⟨_, rfl, HP.out.cast ?_⟩
      rw [List.take_of_length_le (by rw [enc_length]; omega)]

set_option maxHeartbeats 400000 in
theorem put16 (v : Value) (l : List UInt8) (n : Nat) (w : World) (ho : Own w 0 v l) (hn : n < 65536) (hl : l.length + 8 ≤ 140737488355328) :
    Calls Try.prog 121 #[v, .int .u16 n] w fun e w' => ∃ v', e = .returned v' ∧ Puts w w' v v' (l ++ enc n 2) := by
  have HA := Hid.mk (putLow16 v l n 2 w ho hn (by omega) hl)
  clear ho
  go_enter Try.func121, Try.ntmps121
  go_wp2_with (go_at_call 124; refine (width16 w).mono ?_; rintro e w' ⟨rfl, hw⟩; replace hw := hw.symm; subst hw)
  refine HA.out.mono ?_
  rintro e w1 ⟨v1, rfl, hp⟩
  have HP := Hid.mk hp
  clear hp
  go_wp2
  go_ret
  exact ⟨_, rfl, HP.out⟩

set_option maxRecDepth 100000 in
set_option maxHeartbeats 600000 in
theorem putLow32 (v : Value) (l : List UInt8) (n size : Nat) (w : World) (ho : Own w 0 v l) (hn : n < 4294967296) (hs : size ≤ 8) (hl : l.length + 8 ≤ 140737488355328) :
    Calls Try.prog 138 #[v, .int .u32 n, .int .i64 size] w fun e w' => ∃ v', e = .returned v' ∧ Puts w w' v v' (l ++ enc n size) := by
  go_enter Try.func138, Try.ntmps138
  go_wp2
  go_loopw [0, 7] (fun x i wr => ∃ j : Nat, j ≤ size ∧ i = .int .i64 ((size : Int) - 1 - j) ∧ Puts w wr v x (l ++ (enc n size).take j)) (fun _ i _ => (intOf i + 1).toNat)
  case atStart => exact ⟨0, by omega, by simp, by simpa using Puts.refl ho⟩
  case round =>
    obtain ⟨j, hj, rfl, hp⟩ := hrel
    have HP := Hid.mk hp
    clear hp
    by_cases hlt : j < size
    · have h1 : (0 : Int) ≤ (size : Int) - 1 - j := by omega
      have h2 : (size : Int) - 1 - j < 8 := by omega
      have hown := fun o : Obj => own_alloc HP.out.own o
      have HO := Hid.mk hown
      have hlen : (l ++ (enc n size).take j).length + 1 ≤ 140737488355328 := by
        rw [List.length_append, List.length_take, enc_length]; omega
      have HLen := Hid.mk hlen
      have HT := Hid.mk (enc_take n size j hlt)
      have HB := Hid.mk (byte_of n (size - 1 - j))
      clear hown hlen
      go_wp2_with (at_builtin; go_must (refine wpList_append_rd rfl _ _ rfl 0 _ (l ++ (enc n size).take j) rfl (HO.out _) _ [UInt8.ofNat (n / 256 ^ (size - 1 - j))] rfl (fun _ => False) (rd_one wr _ _ HB.out _ (fun h => h)) HLen.out (Nat.zero_le _) ?_); intro r2 n2 c2 w2 ho2 hg2 hv2)
      exact ⟨⟨j + 1, by omega, by go_num, by rw [HT.out, ← List.append_assoc]; exact HP.out.app ho2 hg2 hv2⟩, by simp [intOf]; omega⟩
    · go_wp2
      go_ret
      refine ⟨_, rfl, HP.out.cast ?_⟩
      rw [List.take_of_length_le (by rw [enc_length]; omega)]

set_option maxHeartbeats 400000 in
theorem put32 (v : Value) (l : List UInt8) (n : Nat) (w : World) (ho : Own w 0 v l) (hn : n < 4294967296) (hl : l.length + 8 ≤ 140737488355328) :
    Calls Try.prog 115 #[v, .int .u32 n] w fun e w' => ∃ v', e = .returned v' ∧ Puts w w' v v' (l ++ enc n 4) := by
  have HA := Hid.mk (putLow32 v l n 4 w ho hn (by omega) hl)
  clear ho
  go_enter Try.func115, Try.ntmps115
  go_wp2_with (go_at_call 122; refine (width32 w).mono ?_; rintro e w' ⟨rfl, hw⟩; replace hw := hw.symm; subst hw)
  refine HA.out.mono ?_
  rintro e w1 ⟨v1, rfl, hp⟩
  have HP := Hid.mk hp
  clear hp
  go_wp2
  go_ret
  exact ⟨_, rfl, HP.out⟩

end Go.Proofs.Ytphkchjejbffeaa
