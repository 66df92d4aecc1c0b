/- The small walks of a bourse. -/
import Derived.Test.YtphkchjejbffeaaG08
namespace Go.Proofs.Ytphkchjejbffeaa
open Go.RowKit
attribute [local go_sem ↓] Go.wp_at_zero Go.wp_at_succ

theorem within_q (n a z : Int) (q : Bool) (hq : decide (a ≤ n ∧ n ≤ z) = q) (w : World) : Calls Try.prog 46 #[.int .i64 n, .int .i64 a, .int .i64 z] w fun e w' => e = .returned (.bool q) ∧ w' = w := by
  by_cases h1 : a ≤ n
  · by_cases h2 : n ≤ z
    · have : q = true := by rw [← hq]; simp [h1, h2]
      subst this
      clear hq
      go_enter Try.func46, Try.ntmps46
      go_wp2_with fail
      go_ret
      exact ⟨rfl, rfl⟩
    · have : q = false := by rw [← hq]; simp [h2]
      subst this
      clear hq
      go_enter Try.func46, Try.ntmps46
      go_wp2_with fail
      go_ret
      exact ⟨rfl, rfl⟩
  · have : q = false := by rw [← hq]; simp [h1]
    subst this
    clear hq
    go_enter Try.func46, Try.ntmps46
    go_wp2_with fail
    go_ret
    exact ⟨rfl, rfl⟩

theorem Rel.map {w : World} {b : Nat} {c : BC} {k : SK} {st : St} (h : Rel w b c k st) : w.cell? ⟨b, 18, none⟩ = some (.map (some c.pm)) := by rw [h.B.cell]; exact (c.get h.B.len).2.2.2.2.2.1
theorem Rel.books {w : World} {b : Nat} {c : BC} {k : SK} {st : St} (h : Rel w b c k st) : w.cell? ⟨b, 19, none⟩ = some (.pointer (some ⟨k.bk, 0, none⟩)) := by rw [← h.bk, h.B.cell]; exact (c.get h.B.len).2.2.2.2.2.2.1

set_option maxHeartbeats 400000 in
theorem used_any (b : Nat) (c : BC) (k : SK) (st : St) (t : Nat) (w : World) (h : Rel w b c k st) (ht : t < 4294967296) :
    Calls Try.prog 111 #[.pointer (some ⟨b, 0, none⟩), .int .u32 t] w fun e w' => e = .returned (.bool (decide (t ∈ st.used))) ∧ w' = w := by
  have g18 := h.map
  obtain ⟨M, od, ps, fl, h1, h2, h3⟩ := h.ex
  have hl := h2.lookOk t ht
  have HE : Hid ((M t).isSome = decide (t ∈ st.used)) := by
    show _ = _
    have := h3.used t
    by_cases e : t ∈ st.used
    · simp [e, this.2 e]
    · have : ¬ (M t).isSome = true := fun q => e (this.1 q)
      simp [e, this]
  generalize (M t).isSome = q at *
  clear h h1 h2 h3
  go_enter Try.func111, Try.ntmps111
  go_wp2_with fail
  go_ret
  exact ⟨by rw [← HE.out]; rfl, rfl⟩

set_option maxHeartbeats 400000 in
theorem onLadder_any (b : Nat) (c : BC) (k : SK) (st : St) (p : Nat) (w : World) (h : Rel w b c k st) (hp : p < 65536) (q : Bool) (hq : decide (1 ≤ p ∧ p ≤ st.levels) = q) :
    Calls Try.prog 112 #[.pointer (some ⟨b, 0, none⟩), .int .u16 p] w fun e w' => e = .returned (.bool q) ∧ w' = w := by
  have g19 := h.books
  obtain ⟨M, od, ps, fl, h1, h2, h3⟩ := h.ex
  obtain ⟨free, fs, ls, bef, aft, h4, h5⟩ := h1.ex
  have HK := Hid.mk h4.K
  have wp : IntKind.i64.wrap (p : Int) = (p : Int) := by rw [IntKind.wrap_i64]; omega
  have HE : Hid (decide ((1 : Int) ≤ (p : Int) ∧ (p : Int) ≤ ((k.kc free st.resting).levels : Int)) = q) := by
    show _ = _
    rw [← hq, ← h3.hL]
    apply decide_eq_decide.2
    show ((1 : Int) ≤ (p : Int) ∧ (p : Int) ≤ (k.L : Int)) ↔ _
    omega
  clear h h1 h2 h3 h4 h5 hq
  go_enter Try.func112, Try.ntmps112
  go_wp2_with (first
    | (go_at_call 137; refine (levels_any k.bk (k.kc free st.resting) w HK.out).mono ?_; rintro e w' ⟨rfl, hw⟩; replace hw := hw.symm; subst hw)
    | (go_at_call 46; refine (within_q _ _ _ q HE.out _).mono ?_; rintro e w' ⟨rfl, hw⟩; replace hw := hw.symm; subst hw))
  go_ret
  exact ⟨rfl, rfl⟩

set_option maxHeartbeats 400000 in
theorem sharesMayBe_any (n : Nat) (w : World) (hn : n < 65536) (q : Bool) (hq : decide (1 ≤ n ∧ n ≤ 9999) = q) :
    Calls Try.prog 113 #[.int .u16 n] w fun e w' => e = .returned (.bool q) ∧ w' = w := by
  have wp : IntKind.i64.wrap (n : Int) = (n : Int) := by rw [IntKind.wrap_i64]; omega
  have HE : Hid (decide ((1 : Int) ≤ (n : Int) ∧ (n : Int) ≤ 9999) = q) := by
    show _ = _
    rw [← hq]
    apply decide_eq_decide.2
    omega
  clear hq
  go_enter Try.func113, Try.ntmps113
  go_wp2_with (go_at_call 46; refine (within_q _ _ _ q HE.out _).mono ?_; rintro e w' ⟨rfl, hw⟩; replace hw := hw.symm; subst hw)
  go_ret
  exact ⟨rfl, rfl⟩

theorem BC.setRefs (c : BC) (h : c.bytes.length = 13) (n : Nat) : c.cells.setIfInBounds 16 (.int .u32 n) = { c with refs := n }.cells ∧ c.cells.setIfInBounds 17 (.int .u32 n) = { c with mats := n }.cells := by
  obtain ⟨a1, a2, a3, a4, a5, a6, a7, a8, a9, a10, a11, a12, a13, e⟩ := bytes13 _ h
  unfold BC.cells
  simp only [e]
  exact ⟨rfl, rfl⟩
theorem BC.setOpn (c : BC) (h : c.bytes.length = 13) (o : Bool) : c.cells.setIfInBounds 0 (.bool o) = { c with opn := o }.cells := by
  obtain ⟨a1, a2, a3, a4, a5, a6, a7, a8, a9, a10, a11, a12, a13, e⟩ := bytes13 _ h
  unfold BC.cells
  simp only [e]
  rfl
theorem IsB.setRefs {w : World} {b : Nat} {c : BC} (h : IsB w b c) (n : Nat) : IsB (w.setCell ⟨b, 16, none⟩ (.int .u32 n)) b { c with refs := n } :=
  ⟨by rw [heap_setCell_same w b 16 _ _ _ h.blk, (c.setRefs h.len n).1], h.len⟩
theorem IsB.setMats {w : World} {b : Nat} {c : BC} (h : IsB w b c) (n : Nat) : IsB (w.setCell ⟨b, 17, none⟩ (.int .u32 n)) b { c with mats := n } :=
  ⟨by rw [heap_setCell_same w b 17 _ _ _ h.blk, (c.setRefs h.len n).2], h.len⟩
theorem IsB.setOpn {w : World} {b : Nat} {c : BC} (h : IsB w b c) (o : Bool) : IsB (w.setCell ⟨b, 0, none⟩ (.bool o)) b { c with opn := o } :=
  ⟨by rw [heap_setCell_same w b 0 _ _ _ h.blk, c.setOpn h.len o], h.len⟩

/-- Only the block of the bourse itself has turned. -/
theorem Rel.own {w w' : World} {b : Nat} {c c' : BC} {k : SK} {st st' : St} (h : Rel w b c k st) (hB : IsB w' b c') (hf : Fr (fun j => j = b) w w') (e1 : c'.pm = c.pm) (e2 : c'.bk = c.bk) (e3 : c'.va = c.va) (e4 : c'.vt = c.vt)
    (s1 : st'.ans = st.ans) (s2 : st'.tape = st.tape) (s3 : c'.time = st'.time) (s4 : c'.refs = st'.refs) (s5 : c'.mats = st'.mats) (hi : Inv st') (q1 : st'.stocks = st.stocks) (q2 : st'.levels = st.levels) (q3 : st'.pool = st.pool) (q4 : st'.q = st.q) (q5 : st'.used = st.used) : Rel w' b c' k st' ∧ Fr (GB b c k) w w' ∧ (∀ j, GB b c' k j → GB b c k j) := by
  have hd := h.dist
  obtain ⟨M, od, ps, fl, h1, h2, h3⟩ := h.ex
  have h3' := h3.of_st hi q1 q2 q3 q4 q5
  have hr : st'.resting = st.resting := by
    have a1 := h3.cnt
    have a2 := h3'.cnt
    rw [q3] at a2
    omega
  refine ⟨⟨hB, e2.trans h.bk, ?_, ?_, s3, s4, s5, ?_, M, od, ps, fl, ?_, ?_, h3'⟩, hf.mono (fun j _ e => Or.inl e), ?_⟩
  · rw [e3, s1]
    exact h.A.keep (fun g hg => hf.block g (Own.lt h.A g hg).2 (fun e => hd.ab (e ▸ hg)))
  · rw [e4, s2]
    exact h.T.keep (fun g hg => hf.block g (Own.lt h.T g hg).2 (fun e => hd.tb (e ▸ hg)))
  · exact ⟨hd.bF, by rw [e1]; exact hd.pb, by rw [e1]; exact hd.pF, by rw [e3]; exact hd.ab, by rw [e1, e3]; exact hd.ap, by rw [e3]; exact hd.aF, by rw [e4]; exact hd.tb, by rw [e1, e4]; exact hd.tp, by rw [e4]; exact hd.tF, by rw [e3, e4]; exact hd.atb⟩
  · rw [hr]
    exact h1.fr hf (fun j hj e => hd.bF (e ▸ hj))
  · rw [e1, q5]
    exact h2.keep (hf.block _ h2.lt hd.pb)
  · intro j hj
    unfold GB at *
    rw [e1, e3, e4] at hj
    exact hj

end Go.Proofs.Ytphkchjejbffeaa

/- A token is made known; shares go; orders rest. -/
namespace Go.Proofs.Ytphkchjejbffeaa
open Go.RowKit
attribute [local go_sem ↓] Go.wp_at_zero Go.wp_at_succ

theorem Fi.usedLen {S L n : Nat} {od : Nat → Ord} {ps : Nat → UInt8 → Nat → List Nat} {fl : List Nat} {M : Nat → Option Nat} {st : St} (h : Fi S L n od ps fl M st) : st.used.length ≤ 4294967296 := nodup_len _ _ h.unod h.ult

def Does (w : World) (b : Nat) (c : BC) (k : SK) (w' : World) (st' : St) : Prop := ∃ c', Rel w' b c' k st' ∧ Stp w b c k w' c'

set_option maxHeartbeats 600000 in
theorem register_any (b : Nat) (c : BC) (k : SK) (st : St) (t r : Nat) (w : World) (h : Rel w b c k st) (ht : t < 4294967296) (hu : t ∉ st.used) (hr : (st.refs + 1) % 4294967296 = r) :
    Calls Try.prog 117 #[.pointer (some ⟨b, 0, none⟩), .int .u32 t] w fun e w' => e = .returned (.int .u32 r) ∧ Does w b c k w' { st with refs := r, used := t :: st.used } := by
  have hd := h.dist
  have g16 : w.cell? ⟨b, 16, none⟩ = some (.int .u32 c.refs) := by rw [h.B.cell]; exact (c.get h.B.len).2.2.2.1
  have f16 := h.B.frozen 16
  have hB1 := h.B.setRefs r
  have hF1 : Fr (fun j => j = b) w (w.setCell ⟨b, 16, none⟩ (.int .u32 r)) := Fr.setCell w ⟨b, 16, none⟩ _
  have hi1 : Inv { st with refs := r } := h.inv.of_q rfl rfl rfl rfl (fun _ q => q) (by rw [← hr]; exact Nat.mod_lt _ (by decide)) h.inv.mats h.inv.time
  obtain ⟨hR1, hfr1, hsub1⟩ := h.own (st' := { st with refs := r }) hB1 hF1 rfl rfl rfl rfl rfl rfl h.time rfl h.mats hi1 rfl rfl rfl rfl rfl
  have hrb := h.inv.refs
  have w1 : IntKind.u32.wrap ((c.refs : Int) + 1) = (r : Int) := by
    rw [IntKind.wrap_u32, h.refs, ← hr]
    omega
  generalize hW : w.setCell ⟨b, 16, none⟩ (.int .u32 r) = W at *
  obtain ⟨M, od, ps, fl, k1, k2, k3⟩ := hR1.ex
  have hMt : M t = none := by
    cases e : M t with
    | none => rfl
    | some x => exact absurd ((k3.used t).1 (by rw [e]; rfl)) hu
  obtain ⟨w2, hrun, k4, k5⟩ := k2.store t 0 ht (by decide) k3.usedLen
  rw [hMt] at k4
  have k6 := k3.register (st' := { st with refs := r, used := t :: st.used }) (hi1.of_q rfl rfl rfl rfl (fun _ q => List.mem_cons_of_mem _ q) hi1.refs hi1.mats hi1.time) rfl rfl rfl rfl rfl hu ht
  have hr6 : ({ st with refs := r, used := t :: st.used } : St).resting = ({ st with refs := r } : St).resting := rfl
  obtain ⟨hR2, hS2⟩ := hR1.turn (st' := { st with refs := r, used := t :: st.used }) (k5.mono (fun j _ e => Or.inr e)) (k1.fr k5 (fun j hj e => hd.pF (e ▸ hj))) k4 k6 rfl rfl rfl rfl rfl
  have g18 : W.cell? ⟨b, 18, none⟩ = some (.map (some c.pm)) := hR1.map
  have g2 : w2.cell? ⟨b, 16, none⟩ = some (.int .u32 r) := by rw [hR2.B.cell]; exact (BC.get _ hR2.B.len).2.2.2.1
  have HF : Hid (Does w b c k w2 { st with refs := r, used := t :: st.used }) := ⟨_, hR2, (Stp.trans ⟨hfr1, fun j hj => Or.inl (hsub1 j hj), rfl, rfl, rfl⟩ hS2)⟩
  clear hR2 hS2 hR1 k1 k2 k3 k4 k5 k6 hfr1 hsub1 hF1 hB1 hi1 h hd hr6
  have hrun' : (Instr.mapUpdate 78 (.map (some c.pm)) (.int .u32 t) (.int .i64 0)).run Try.prog W = .ok () w2 := hrun
  clear hrun
  go_enter Try.func117, Try.ntmps117
  go_wp2_with fail
  go_ret
  exact ⟨rfl, HF.out⟩

/-- The books and the places of tokens hold just this. -/
def Holds (w : World) (c : BC) (k : SK) (st : St) (M : Nat → Option Nat) (od : Nat → Ord) (ps : Nat → UInt8 → Nat → List Nat) (fl : List Nat) : Prop :=
  Bks w k st.resting od ps fl ∧ IsM w c.pm st.used.length M ∧ Fi k.S k.L k.n od ps fl M st

section
variable {w w' : World} {b : Nat} {c c' : BC} {k : SK} {st : St} {M : Nat → Option Nat} {od : Nat → Ord} {ps : Nat → UInt8 → Nat → List Nat} {fl : List Nat}
theorem Holds.tellA {l l' : List UInt8} (h : Holds w c k st M od ps fl) (hd : Dist b c k) (t : TellA w w' b c l') (hc : c'.pm = c.pm) : Holds w' c' k (st.say l) M od ps fl := by
  obtain ⟨v', tB, tO, tn, tat, tf⟩ := t
  refine ⟨h.1.fr tf (fun j hj e => e.elim (fun e => hd.bF (e ▸ hj)) (fun e => hd.aF j e hj)), ?_, h.2.2.of_st (h.2.2.inv.say l) rfl rfl rfl rfl rfl⟩
  rw [hc]
  exact h.2.1.keep (tf.block _ h.2.1.lt (fun e => e.elim (fun e => hd.pb e) (fun e => hd.ap e)))
theorem Holds.tellT {l l' : List UInt8} (h : Holds w c k st M od ps fl) (hd : Dist b c k) (t : TellT w w' b c l') (hc : c'.pm = c.pm) : Holds w' c' k (st.put l) M od ps fl := by
  obtain ⟨v', tB, tO, tn, tat, tf⟩ := t
  refine ⟨h.1.fr tf (fun j hj e => e.elim (fun e => hd.bF (e ▸ hj)) (fun e => hd.tF j e hj)), ?_, h.2.2.of_st (h.2.2.inv.put l) rfl rfl rfl rfl rfl⟩
  rw [hc]
  exact h.2.1.keep (tf.block _ h.2.1.lt (fun e => e.elim (fun e => hd.pb e) (fun e => hd.tp e)))
theorem Holds.quiet (h : Holds w c k st M od ps fl) (hf : Fr (fun _ => False) w w') : Holds w' c k st M od ps fl :=
  ⟨h.1.fr hf (fun _ _ e => e), h.2.1.keep (hf.block _ h.2.1.lt (fun e => e)), h.2.2⟩
end

theorem fieldTok (a z : Nat) (o : Ord) (w : World) : (Instr.field 129 (ordV a z o) 2).run Try.prog w = .ok (.int .u32 o.token) w := by
  unfold Instr.field ordV ordL
  simp [go_sem, asAgg]

theorem order_bk (k : SK) (w : World) (taken x : Nat) (od : Nat → Ord) (ps : Nat → UInt8 → Nat → List Nat) (fl : List Nat) (h : Bks w k taken od ps fl) (hx : x < k.n) :
    Calls Try.prog 81 #[.pointer (some ⟨k.bk, 0, none⟩), .int .i64 x] w fun e w' => ∃ a z, e = .returned (ordV a z (od x)) ∧ Hid (Fr (fun _ => False) w w') := by
  obtain ⟨free, fs, ls, bef, aft, h1, h2⟩ := h.ex
  have okn := h.ok.n
  refine (order_any k.bk x (k.kc free taken) bef aft od w h1.K h1.P hx (show k.n ≤ 1000 by omega)).mono ?_
  rintro e w' ⟨rfl, hf⟩
  exact ⟨_, _, rfl, hf⟩

theorem Bks.nodup {w : World} {k : SK} {taken : Nat} {od : Nat → Ord} {ps : Nat → UInt8 → Nat → List Nat} {fl : List Nat} (h : Bks w k taken od ps fl) {s : Nat} {d : UInt8} {p : Nat} (hv : VV k.S k.L s d p) : (ps s d p).Nodup ∧ (∀ x ∈ ps s d p, x < k.n ∧ x ≠ 0) ∧ ∀ x ∈ ps s d p, ∀ s' d' p', VV k.S k.L s' d' p' → x ∈ ps s' d' p' → s' = s ∧ d' = d ∧ p' = p := by
  obtain ⟨free, fs, ls, bef, aft, h1, h2⟩ := h.ex
  exact ⟨(h2.line _ _ _ hv).nodup, fun x hx => ⟨h2.lt _ _ _ hv x hx, h2.ne0 hv hx⟩, fun x hx s' d' p' hv' hx' => h2.dis _ _ _ _ _ _ hv hv' x hx hx'⟩

set_option maxRecDepth 100000 in
set_option maxHeartbeats 1000000 in
theorem reduce_step (b : Nat) (c : BC) (k : SK) (st : St) (M : Nat → Option Nat) (od : Nat → Ord) (ps : Nat → UInt8 → Nat → List Nat) (fl : List Nat) (x n : Nat) (f : Ord) (w : World) (h : Rel w b c k st) (hh : Holds w c k st M od ps fl) (hf : od x = f) (hv : VV k.S k.L f.stock f.side f.price) (hx : x ∈ ps f.stock f.side f.price) (hn : n ≤ f.shares) :
    Calls Try.prog 86 #[.pointer (some ⟨b, 0, none⟩), .int .i64 x, .int .u16 n] w fun e w' => e = .returned (.tuple #[]) ∧ Does w b c k w' (st.upd f.stock f.side f.price (redO f.token n)) := by
  obtain ⟨j1, j2, j3⟩ := hh
  obtain ⟨nd, lt, dis⟩ := j1.nodup hv
  have hxn := (lt x hx).1
  have hxd := dis x hx
  have g19 := h.books
  have g18 := h.map
  have hd := h.dist
  have hfit := j3.fits hv hx
  rw [hf] at hfit
  have hmost := hfit.most
  have htok := hfit.token
  obtain ⟨a, bb, hab⟩ := List.append_of_mem hx
  have hcut := j3.cut hv hab nd
  rw [hf] at hcut
  have hi := h.inv.red f.stock f.side f.price f.token n (j3.valid hv)
  have hq : st.q f.stock f.side f.price = a.map od ++ f :: bb.map od := by rw [j3.q _ _ _ hv, hab, List.map_append, List.map_cons, hf]
  have hred := redO_app f.token n (a.map od) f (bb.map od) hcut.1 rfl
  have HO := Hid.mk (order_bk k w st.resting x od ps fl j1 hxn)
  have hpmb := h.dist.pb
  have hblt := h.B.lt
  have HR := Hid.mk h
  have HJ := Hid.mk (And.intro j1 (And.intro j2 j3))
  by_cases hlt : n < f.shares
  · obtain ⟨v, hvv⟩ : ∃ v, n + v = f.shares := ⟨f.shares - n, by omega⟩
    have hv0 : v ≠ 0 := by omega
    have b0 : ((v : Int) == 0) = false := by simp; omega
    rw [if_neg (by omega), ← hq] at hred
    have e3 : ({ f with shares := f.shares - n } : Ord) = { od x with shares := v } := by rw [hf]; congr 1; omega
    have HL : Hid (Fi k.S k.L k.n (updN od x { od x with shares := v }) ps fl M (st.upd f.stock f.side f.price (redO f.token n))) := by
      refine j3.less hv hab nd hxd { od x with shares := v } rfl (redO f.token n) ?_ hi
      rw [hred, e3]
    have hres : (st.upd f.stock f.side f.price (redO f.token n)).resting = st.resting := by
      have a1 := HL.out.cnt
      have a2 := j3.cnt
      have a3 : (st.upd f.stock f.side f.price (redO f.token n)).pool = st.pool := rfl
      omega
    have HRES := Hid.mk hres
    clear hred e3 hq hi hres h j1 j2 j3 nd lt dis hxd hab hcut hfit hn
    go_enter Try.func86, Try.ntmps86
    go_wp2_with (first
      | (go_at_call 81; refine HO.out.mono ?_; rintro e w1 ⟨aa, zz, rfl, hf1⟩; have g19b := hf1.out.cell g19 (fun e => e); have hft := fieldTok aa zz (od x) w1; simp only [ordV, ordL, hf] at hft ⊢)
      | (go_at_call 130; refine (reduce_red k w1 st.resting x n v od ps fl (HJ.out.1.fr hf1.out (fun _ _ e => e)) hxn (by rw [hf]; omega) hv0 (by omega)).mono ?_; rintro e w2 ⟨rfl, hb2, hf2⟩))
    go_end0
    refine ⟨rfl, _, (HR.out.turn (st' := st.upd f.stock f.side f.price (redO f.token n)) ((hf1.out.mono (fun _ _ e => e.elim)).trans hf2 (fun _ _ e => Or.inl e)) (by rw [HRES.out]; exact hb2) ?_ HL.out rfl rfl rfl rfl rfl)⟩
    exact HJ.out.2.1.keep ((hf2.block _ (Nat.lt_of_lt_of_le HJ.out.2.1.lt hf1.out.size) hd.pF).trans (hf1.out.block _ HJ.out.2.1.lt (fun e => e)))
  · have hne : n = f.shares := by omega
    subst hne
    rw [if_pos (by omega), ← hq, ← List.map_append] at hred
    obtain ⟨tk, htk⟩ : ∃ tk, tk + 1 = st.resting := by
      have a1 := rest_upd st f.stock f.side f.price (j3.valid hv) (redO f.token f.shares)
      rw [hred, hq] at a1
      simp only [List.length_map, List.length_append, List.length_cons] at a1
      exact ⟨st.resting - 1, by omega⟩
    have HL : Hid (Fi k.S k.L k.n (updN od x noOrd) (updQ ps f.stock f.side f.price (a ++ bb)) (x :: fl) (updM M f.token (some 0)) (st.upd f.stock f.side f.price (redO f.token f.shares))) := by
      have := j3.gone hv hab nd hxd noOrd (redO f.token f.shares) hred hi
      rw [hf] at this
      exact this
    have hres : (st.upd f.stock f.side f.price (redO f.token f.shares)).resting = tk := by
      have a1 := HL.out.cnt
      have a2 := j3.cnt
      have a3 : (st.upd f.stock f.side f.price (redO f.token f.shares)).pool = st.pool := rfl
      rw [List.length_cons] at a1
      omega
    have HRES := Hid.mk hres
    have hmsome : (M f.token).isSome = true := by
      have := j3.mat _ _ _ hv x hx
      rw [hf] at this
      rw [this]; rfl
    have HMS := Hid.mk hmsome
    have HTK := Hid.mk htk
    have htl : st.resting ≤ 100 := by
      have a1 := j3.cnt
      have a2 := h.inv.pool
      omega
    have HAB := Hid.mk hab
    have huse := j3.usedLen
    clear hred hq hi hres h j1 j2 j3 nd lt dis hxd hab hcut hfit hn hmsome htk hlt
    go_enter Try.func86, Try.ntmps86
    go_wp2_with (first
      | (go_at_call 81; refine HO.out.mono ?_; rintro e w1 ⟨aa, zz, rfl, hf1⟩; have g19b := hf1.out.cell g19 (fun e => e); have g18b := hf1.out.cell g18 (fun e => e); have hft := fieldTok aa zz (od x) w1; simp only [ordV, ordL, hf] at hft ⊢)
      | (go_at_call 130; refine (reduce_out k w1 st.resting tk x f.shares od ps fl a bb (HJ.out.1.fr hf1.out (fun _ _ e => e)) (by rw [hf]) (by omega) (by rw [hf]; exact hv) (by rw [hf]; exact HAB.out) htl HTK.out).mono ?_; rintro e w2 ⟨rfl, hb2, hf2⟩; have g18c := hf2.cell g18b hd.bF; rw [hf] at hb2; have hM2 : IsM w2 c.pm st.used.length M := HJ.out.2.1.keep ((hf2.block _ (Nat.lt_of_lt_of_le HJ.out.2.1.lt hf1.out.size) hd.pF).trans (hf1.out.block _ HJ.out.2.1.lt (fun e => e))); obtain ⟨w3, hrun, hM3, hf3⟩ := hM2.store f.token 0 htok (by decide) huse; rw [if_pos HMS.out] at hM3; replace hb2 := Hid.mk hb2; replace hf2 := Hid.mk hf2; replace hM3 := Hid.mk hM3; replace hf3 := Hid.mk hf3; clear hM2; rw [← hf] at hrun; replace hrun : (Instr.mapUpdate 78 (.map (some c.pm)) (.int .u32 (od x).token) (.int .i64 0)).run Try.prog w2 = .ok () w3 := hrun; rw [hf] at hrun))
    go_end0
    have F1 : Fr (fun j => k.F j ∨ j = c.pm) w w1 := hf1.out.mono (fun _ _ e => e.elim)
    have F2 : Fr (fun j => k.F j ∨ j = c.pm) w1 w2 := hf2.out.mono (fun _ _ e => Or.inl e)
    have F3 : Fr (fun j => k.F j ∨ j = c.pm) w2 w3 := hf3.out.mono (fun _ _ e => Or.inr e)
    have F4 : Fr (fun j => k.F j ∨ j = c.pm) w w3 := F1.trans (F2.trans F3 (fun _ _ e => e)) (fun _ _ e => e)
    have B4 : Bks w3 k tk (updN od x noOrd) (updQ ps f.stock f.side f.price (a ++ bb)) (x :: fl) := hb2.out.fr hf3.out (fun j hj e => hd.pF (e ▸ hj))
    rw [← HRES.out] at B4
    have fin := HR.out.turn (w' := w3) (st' := st.upd f.stock f.side f.price (redO f.token f.shares)) F4 B4 hM3.out HL.out rfl rfl rfl rfl rfl
    exact ⟨rfl, c, fin⟩

end Go.Proofs.Ytphkchjejbffeaa

/- An order comes to rest, in a bourse. -/
namespace Go.Proofs.Ytphkchjejbffeaa
open Go.RowKit
attribute [local go_sem ↓] Go.wp_at_zero Go.wp_at_succ

def poOf (a z : Nat) (o : Ord) : PO := { before := a, after := z, ref := o.ref, token := o.token, side := o.side, stock := o.stock, price := o.price, shares := o.shares }
theorem poOf_cells (a z : Nat) (o : Ord) : Value.agg (poOf a z o).cells = ordV a z o := rfl

theorem Rel.tm {w : World} {b : Nat} {c : BC} {k : SK} {st : St} (h : Rel w b c k st) : c.time < 18446744073709551616 ∧ c.mats < 4294967296 := by
  have h1 := h.inv.time
  have h2 := h.inv.mats
  rw [h.time, h.mats]
  omega

set_option maxRecDepth 100000 in
set_option maxHeartbeats 1000000 in
theorem rest_step (b : Nat) (c : BC) (k : SK) (st : St) (o : Ord) (w : World) (h : Rel w b c k st) (hv : Valid st o.stock o.side o.price) (h1 : 1 ≤ o.shares) (h2 : o.shares ≤ 9999) (h3 : o.ref < 4294967296) (h4 : o.token < 4294967296)
    (hu : o.token ∈ st.used) (hn : ∀ x ∈ st.all, x.token ≠ o.token) (hr : st.resting < st.pool) (hx : st.meets o = none) (hroom : st.tape.length ≤ 70368744300000) :
    Calls Try.prog 75 #[.pointer (some ⟨b, 0, none⟩), ordV 0 0 o] w fun e w' => e = .returned (.tuple #[]) ∧ Does w b c k w' (st.rest o) := by
  have hd := h.dist
  obtain ⟨M, od, ps, fl, j1, j2, j3⟩ := h.ex
  have hVV := j3.vv hv
  have hMt : M o.token = some 0 := by
    have := (j3.used o.token).2 hu
    obtain ⟨x, e⟩ := Option.isSome_iff_exists.1 this
    rw [e]
    by_cases e0 : x = 0
    · rw [e0]
    · obtain ⟨s, d, p, v1, v2, v3⟩ := j3.mto _ _ e e0
      exact absurd v3 (hn _ (j3.in_all v1 v2))
  obtain ⟨x, fl', rfl⟩ : ∃ x fl', fl = x :: fl' := by
    have := j3.cnt
    rcases fl with _ | ⟨x, fl'⟩
    · simp at this; omega
    · exact ⟨x, fl', rfl⟩
  have hinv : Inv (st.upd o.stock o.side o.price (· ++ [o])) := by
    refine h.inv.push o hv h1 h2 h3 h4 hu hn hr ?_
    intro p hne
    have hvp := h.inv.ok _ _ _ hne
    obtain ⟨r, hr1, hr2⟩ := ranked_of st (other o.side) p hvp.2.2.1 hvp.2.2.2
    by_cases hc : reaches o p = true
    · rw [← hr2] at hc hne
      exact absurd (meets_none hx r hr1 hc) hne
    · simpa using hc
  have hfresh : x ≠ 0 ∧ (∀ s d p, VV k.S k.L s d p → x ∉ ps s d p) ∧ (∀ s d p, VV k.S k.L s d p → ∀ y ∈ ps s d p, y ≠ 0) ∧ x < k.n := by
    obtain ⟨free, fs, ls, bef, aft, l1, l2⟩ := j1.ex
    obtain ⟨t1, t2, t3, t4, t5⟩ := l2.take
    exact ⟨t4, t2.1, fun s d p hv y hy => l2.ne0 hv hy, t5⟩
  have HL : Hid (Fi k.S k.L k.n (updN od x o) (updQ ps o.stock o.side o.price (ps o.stock o.side o.price ++ [x])) fl' (updM M o.token (some x)) (st.upd o.stock o.side o.price (· ++ [o]))) := j3.push hfresh.1 hfresh.2.1 hfresh.2.2.1 o hVV hMt hinv
  have hres : (st.upd o.stock o.side o.price (· ++ [o])).resting = st.resting + 1 := by
    have a1 := HL.out.cnt
    have a2 := j3.cnt
    have a3 : (st.upd o.stock o.side o.price (· ++ [o])).pool = st.pool := rfl
    rw [List.length_cons] at a2
    omega
  have HRES := Hid.mk hres
  have htl : st.resting ≤ 100 := by have := h.inv.pool; omega
  have huse := j3.usedLen
  have hxlt : x < 4294967296 := by have := h.ok.n; omega
  have g18 := h.map
  have g19 := h.books
  have hblt := h.B.lt
  have hgb : ∀ j, GB b c k j → j < w.heap.size := h.lt
  have hbkl : k.bk < w.heap.size := j1.lt _ (Or.inl rfl)
  have HR := Hid.mk h
  have HJ := Hid.mk (And.intro j1 (And.intro j2 j3))
  have HM := Hid.mk hMt
  have HVV := Hid.mk hVV
  clear h j1 j2 j3 hinv hfresh hMt hVV hv hn hu hx hres
  unfold ordV ordL
  go_enter Try.func75, Try.ntmps75
  go_wp2_with fail
  generalize hOb : Obj.cells _ 129 = Ob
  have hbx : Box (w.alloc Ob) w.heap.size 0 0 o := Box.of (t := 129) (by rw [heap_alloc, if_pos rfl, ← hOb]; rfl)
  have hF0 : Fr (fun _ => False) w (w.alloc Ob) := Fr.alloc _ w Ob
  clear hOb
  generalize w.alloc Ob = W at hbx hF0 ⊢
  have HB0 : Hid (Bks W k st.resting od ps (x :: fl')) := HJ.out.1.fr hF0 (fun _ _ e => e)
  have HM0 : Hid (IsM W c.pm st.used.length M) := HJ.out.2.1.keep (hF0.block _ HJ.out.2.1.lt (fun e => e))
  have h18 := hF0.cell g18 (fun e => e)
  have h19 := hF0.cell g19 (fun e => e)
  obtain ⟨q0, q1, q2, q3, q4, q5, q6, q7⟩ := hbx
  have HF0 := Hid.mk hF0
  have hgF : ¬ k.F w.heap.size := fun e => by have := hgb _ (Or.inr (Or.inr (Or.inl e))); omega
  have hgp : w.heap.size ≠ c.pm := fun e => by have := hgb c.pm (Or.inr (Or.inl rfl)); omega
  have hbp : b ≠ c.pm := Ne.symm hd.pb
  clear hF0 g18 g19
  go_region_held3 (fun w' => (w'.cell? ⟨w.heap.size, 0, none⟩ = some (.int .i64 0) ∧ w'.cell? ⟨w.heap.size, 1, none⟩ = some (.int .i64 0) ∧ w'.cell? ⟨w.heap.size, 2, none⟩ = some (.int .u32 o.ref) ∧ w'.cell? ⟨w.heap.size, 3, none⟩ = some (.int .u32 o.token) ∧ w'.cell? ⟨w.heap.size, 4, none⟩ = some (.int .u8 o.side.toNat) ∧ w'.cell? ⟨w.heap.size, 5, none⟩ = some (.int .u8 o.stock) ∧ w'.cell? ⟨w.heap.size, 6, none⟩ = some (.int .u16 o.price) ∧ w'.cell? ⟨w.heap.size, 7, none⟩ = some (.int .u16 o.shares)) ∧ w'.cell? ⟨b, 18, none⟩ = some (.map (some c.pm)) ∧ w'.cell? ⟨b, 19, none⟩ = some (.pointer (some ⟨k.bk, 0, none⟩))) (first | exact m2 | exact m1 | go_keep)
    ((go_at_call 119; refine (rest_any k W.drew st.resting x o od ps fl' (HB0.out.keep (fun _ _ => rfl)) HVV.out htl).mono ?_; rintro e w2 ⟨rfl, hb2, hf2⟩; have m1 := And.intro ((Box.fr (w := W.drew) ⟨q0, q1, q2, q3, q4, q5, q6, q7⟩ hf2 hgF).all) (And.intro (hf2.cell (w := W.drew) h18 hd.bF) (hf2.cell (w := W.drew) h19 hd.bF)); have hM2 : IsM w2 c.pm st.used.length M := HM0.out.keep (hf2.block (w := W.drew) _ HM0.out.lt hd.pF); obtain ⟨w3, hrun, hM3, hf3⟩ := hM2.store o.token x h4 hxlt huse; rw [if_pos (by rw [HM.out]; rfl)] at hM3; have m2 := And.intro (((Box.fr (w := W.drew) ⟨q0, q1, q2, q3, q4, q5, q6, q7⟩ hf2 hgF).fr hf3 hgp).all) (And.intro (hf3.cell (hf2.cell (w := W.drew) h18 hd.bF) hbp) (hf3.cell (hf2.cell (w := W.drew) h19 hd.bF) hbp)); replace hb2 := Hid.mk hb2; replace hf2 := Hid.mk hf2; replace hM3 := Hid.mk hM3; replace hf3 := Hid.mk hf3; clear hM2))
  have F1 : Fr (fun j => k.F j ∨ j = c.pm) w W := HF0.out.mono (fun _ _ e => e.elim)
  have F2 : Fr (fun j => k.F j ∨ j = c.pm) W w2 := (Fr.drew _ W).trans (hf2.out.mono (G := fun j => k.F j ∨ j = c.pm) (fun _ _ e => Or.inl e)) (fun _ _ e => e)
  have F3 : Fr (fun j => k.F j ∨ j = c.pm) w2 w3 := hf3.out.mono (fun _ _ e => Or.inr e)
  have F4 : Fr (fun j => k.F j ∨ j = c.pm) w w3 := F1.trans (F2.trans F3 (fun _ _ e => e)) (fun _ _ e => e)
  have B4 : Bks w3 k (st.resting + 1) (updN od x o) (updQ ps o.stock o.side o.price (ps o.stock o.side o.price ++ [x])) fl' := hb2.out.fr hf3.out (fun j hj e => hd.pF (e ▸ hj))
  rw [← HRES.out] at B4
  have fin := HR.out.turn (w' := w3) (st' := st.upd o.stock o.side o.price (· ++ [o])) F4 B4 hM3.out HL.out rfl rfl rfl rfl rfl
  have HFIN := Hid.mk fin
  have hok : (poOf 0 0 o).ok := ⟨h3, h4, by show o.stock < 256; have a1 := HVV.out.1; have a2 := HR.out.ok.S; omega, by show o.price < 65536; have a1 := HVV.out.2.2.2; have a2 := HR.out.ok.L; omega, by show o.shares < 65536; omega⟩
  have HT := Hid.mk (tapeRests_any b c st.tape (poOf 0 0 o) w3 fin.1.B fin.1.tm.1 fin.1.tm.2 fin.1.T fin.1.dist.tb (by omega) hok)
  obtain ⟨⟨r0, r1, r2, r3, r4, r5, r6, r7⟩, r8, r9⟩ := m2
  clear F1 F2 F3 F4 B4 fin hok m1 hb2 hf2 hM3 hf3 hrun q0 q1 q2 q3 q4 q5 q6 q7 h18 h19
  go_wp2_with (go_at_call 120; refine HT.out.mono ?_; rintro e w4 ⟨rfl, ht4⟩)
  go_end0
  have htm := HFIN.out.1.time
  obtain ⟨c', hR', hS', -, -⟩ := HFIN.out.1.tellT (l := st.head 97 ++ enc o.ref 4 ++ [o.side, UInt8.ofNat o.stock] ++ enc o.shares 2 ++ enc o.price 2) ht4 (by
    show st.tape ++ 97 :: enc c.time 6 ++ enc o.ref 4 ++ [o.side] ++ [UInt8.ofNat o.stock] ++ enc o.shares 2 ++ enc o.price 2 = st.tape ++ (st.head 97 ++ enc o.ref 4 ++ [o.side, UInt8.ofNat o.stock] ++ enc o.shares 2 ++ enc o.price 2)
    have htm' : c.time = st.time := htm
    unfold St.head
    rw [htm']
    simp)
  exact ⟨rfl, c', hR', HFIN.out.2.trans hS'⟩

end Go.Proofs.Ytphkchjejbffeaa

/- One execution. -/
namespace Go.Proofs.Ytphkchjejbffeaa
open Go.RowKit
attribute [local go_sem ↓] Go.wp_at_zero Go.wp_at_succ

theorem Holds.own {w w' : World} {b : Nat} {c c' : BC} {k : SK} {st st' : St} {M : Nat → Option Nat} {od : Nat → Ord} {ps : Nat → UInt8 → Nat → List Nat} {fl : List Nat} (h : Holds w c k st M od ps fl) (hd : Dist b c k) (hf : Fr (fun j => j = b) w w') (e1 : c'.pm = c.pm) (hi : Inv st') (q1 : st'.stocks = st.stocks) (q2 : st'.levels = st.levels) (q3 : st'.pool = st.pool) (q4 : st'.q = st.q) (q5 : st'.used = st.used) : Holds w' c' k st' M od ps fl := by
  have h3' := h.2.2.of_st hi q1 q2 q3 q4 q5
  have hr : st'.resting = st.resting := by
    have a1 := h.2.2.cnt
    have a2 := h3'.cnt
    rw [q3] at a2
    omega
  refine ⟨?_, ?_, h3'⟩
  · rw [hr]
    exact h.1.fr hf (fun j hj e => hd.bF (e ▸ hj))
  · rw [e1, q5]
    exact h.2.1.keep (hf.block _ h.2.1.lt hd.pb)

set_option maxRecDepth 100000 in
set_option maxHeartbeats 1000000 in
theorem execute_step (b : Nat) (c : BC) (k : SK) (st : St) (M : Nat → Option Nat) (od : Nat → Ord) (ps : Nat → UInt8 → Nat → List Nat) (fl : List Nat) (x a z n : Nat) (o f : Ord) (w : World) (h : Rel w b c k st) (hh : Holds w c k st M od ps fl) (hf : od x = f) (hv : VV k.S k.L f.stock f.side f.price) (hx : x ∈ ps f.stock f.side f.price)
    (hn : min o.shares f.shares = n) (ho : o.token < 4294967296) (hos : o.shares ≤ 9999) (hra : st.ans.length ≤ 70368744300000) (hrt : st.tape.length ≤ 70368744300000) :
    Calls Try.prog 116 #[.pointer (some ⟨b, 0, none⟩), ordV a z o, .int .i64 x] w fun e w' => e = .returned (.int .u16 n) ∧ Does w b c k w' (st.execute o f n) := by
  have hd := h.dist
  obtain ⟨j1, j2, j3⟩ := id hh
  obtain ⟨nd, lt, dis⟩ := j1.nodup hv
  have hxn := (lt x hx).1
  have hfit := j3.fits hv hx
  rw [hf] at hfit
  have hmost := hfit.most
  have htok := hfit.token
  have href := hfit.ref
  have hpr : f.price < 65536 := by have a1 := hv.2.2.2; have a2 := h.ok.L; omega
  have g19 := h.books
  have hblt := h.B.lt
  have hgb : ∀ j, GB b c k j → j < w.heap.size := h.lt
  have HR := Hid.mk h
  have HH := Hid.mk hh
  have HV := Hid.mk hv
  have HX := Hid.mk hx
  have HN : Hid (min o.shares f.shares = n) := hn
  have hnm : (if (o.shares : Int) ≤ (f.shares : Int) then (o.shares : Int) else (f.shares : Int)) = (n : Int) := by rw [← hn]; split <;> omega
  clear h hh hv hx j1 j2 j3 nd lt dis hfit hn
  unfold ordV ordL
  go_enter Try.func116, Try.ntmps116
  go_wp2_with fail
  generalize hOb : Obj.cells _ 129 = Ob
  have hbx : Box (w.alloc Ob) w.heap.size a z o := Box.of (t := 129) (by rw [heap_alloc, if_pos rfl, ← hOb]; rfl)
  have hF0 : Fr (fun _ => False) w (w.alloc Ob) := Fr.alloc _ w Ob
  clear hOb
  generalize w.alloc Ob = W at hbx hF0 ⊢
  refine (order_bk k W st.resting x od ps fl (HH.out.1.fr hF0 (fun _ _ e => e)) hxn).mono ?_
  rintro e w1 ⟨aa, zz, rfl, hf1⟩
  have hF1 : Fr (fun _ => False) w w1 := hF0.trans hf1.out (fun _ _ e => e)
  have hbx1 := hbx.fr hf1.out (fun e => e)
  have hR1 := HR.out.quiet hF1
  have p3 := hbx1.c3
  have p7 := hbx1.c7
  have hgl : w.heap.size < w1.heap.size := World.block_lt_of_cell? w1 _ p3
  have hbl1 := hR1.B.lt
  have g17 : w1.cell? ⟨b, 17, none⟩ = some (.int .u32 c.mats) := by rw [hR1.B.cell]; exact (c.get hR1.B.len).2.2.2.2.1
  have f17 := hR1.B.frozen 17
  obtain ⟨m, hm⟩ : ∃ m, (st.mats + 1) % 4294967296 = m := ⟨_, rfl⟩
  have hmb := HR.out.inv.mats
  have wm : IntKind.u32.wrap ((c.mats : Int) + 1) = (m : Int) := by
    rw [IntKind.wrap_u32, HR.out.mats, ← hm]
    omega
  have HF1 := Hid.mk hF1
  have HR1 := Hid.mk hR1
  have HBX1 := Hid.mk hbx1
  have HM := Hid.mk hm
  clear hF0 hbx hf1 hF1 hR1 hbx1 hm g19
  simp only [ordV, ordL, hf]
  by_cases hmin : o.shares ≤ f.shares
  · have hmin2 : (o.shares : Int) ≤ (f.shares : Int) := by omega
    have hmn := HN.out
    clear hnm
    obtain rfl : n = o.shares := by omega
    go_wp2_with fail
    generalize hOb2 : Obj.cells _ 129 = Ob2
    have hW2 : Fr (fun j => j = b) w1 (w1.setCell ⟨b, 17, none⟩ (.int .u32 m)) := Fr.setCell w1 ⟨b, 17, none⟩ _
    have hi2 : Inv { st with mats := m } := HR.out.inv.of_q rfl rfl rfl rfl (fun _ q => q) HR.out.inv.refs (by show m < _; rw [← HM.out]; exact Nat.mod_lt _ (by decide)) HR.out.inv.time
    have hown := HR1.out.own (c' := { c with mats := m }) (st' := { st with mats := m }) (HR1.out.B.setMats m) hW2 rfl rfl rfl rfl rfl rfl HR1.out.time HR1.out.refs rfl hi2 rfl rfl rfl rfl rfl
    have hH2 : Holds (w1.setCell ⟨b, 17, none⟩ (.int .u32 m)) { c with mats := m } k { st with mats := m } M od ps fl := (HH.out.quiet HF1.out).own hd hW2 rfl hi2 rfl rfl rfl rfl rfl
    have hA2 : Fr (fun _ => False) (w1.setCell ⟨b, 17, none⟩ (.int .u32 m)) ((w1.setCell ⟨b, 17, none⟩ (.int .u32 m)).alloc Ob2) := Fr.alloc _ _ _
    have hs1 : (w1.setCell ⟨b, 17, none⟩ (.int .u32 m)).heap.size = w1.heap.size := by simp [World.setCell]
    have hbf : Box ((w1.setCell ⟨b, 17, none⟩ (.int .u32 m)).alloc Ob2) w1.heap.size aa zz f := Box.of (t := 129) (by rw [heap_alloc, if_pos hs1.symm, ← hOb2]; rfl)
    have hbo : Box ((w1.setCell ⟨b, 17, none⟩ (.int .u32 m)).alloc Ob2) w.heap.size a z o := (HBX1.out.fr hW2 (fun e => by have e : w.heap.size = b := e; omega)).fr hA2 (fun e => e)
    have hS2 : Stp w b c k ((w1.setCell ⟨b, 17, none⟩ (.int .u32 m)).alloc Ob2) { c with mats := m } := (Stp.quiet HF1.out).trans (Stp.trans (c1 := { c with mats := m }) ⟨hown.2.1, fun j hj => Or.inl (hown.2.2 j hj), rfl, rfl, rfl⟩ (Stp.quiet hA2))
    have hR2 := hown.1.quiet hA2
    have hH3 := hH2.quiet hA2
    have hgl2 : w1.heap.size < ((w1.setCell ⟨b, 17, none⟩ (.int .u32 m)).alloc Ob2).heap.size := by rw [size_alloc, hs1]; omega
    clear hOb2 hW2 hown hH2 hA2 hs1 hi2 g17 f17 p3 p7
    generalize ((w1.setCell ⟨b, 17, none⟩ (.int .u32 m)).alloc Ob2) = V at hbf hbo hS2 hR2 hH3 hgl2 ⊢
    obtain ⟨c2, hc2⟩ : ∃ c2, c2 = ({ c with mats := m } : BC) := ⟨_, rfl⟩
    have hpm2 : c2.pm = c.pm := by rw [hc2]
    have hgb2 : ∀ j, GB b c2 k j → j < w.heap.size := by rw [hc2]; exact hgb
    rw [← hc2] at hS2 hR2 hH3
    clear hc2
    have ng0 : ¬ GB b c2 k w.heap.size := fun e => by have := hgb2 _ e; omega
    have ng1 : ¬ GB b c2 k w1.heap.size := fun e => by have := hgb2 _ e; omega
    have htm2 : c2.time = st.time := hR2.time
    have hmt2 : c2.mats = m := hR2.mats
    refine (tellFilled_any b c2 st.ans f.token o.shares f.price V hR2.B hR2.tm.1 hR2.tm.2 hR2.A hR2.dist.ab (by omega) htok (by omega) hpr).mono ?_
    rintro e w3 ⟨rfl, ht3⟩
    obtain ⟨c3, hR3, hS3, hp3, -⟩ := hR2.tellA (l := ({ st with mats := m } : St).fill f.token o.shares f.price m) ht3 (by
      rw [htm2, hmt2]; unfold St.fill St.head; simp)
    have hH4 := hH3.tellA (l := ({ st with mats := m } : St).fill f.token o.shares f.price m) (c' := c3) hR2.dist ht3 hp3
    have u3 := hS3.fr.cell hbo.c3 ng0
    have u6 := hS3.fr.cell hbf.c6 ng1
    have HS2 := Hid.mk hS2
    have HS3 := Hid.mk hS3
    have HR3 := Hid.mk hR3
    have HH4 := Hid.mk hH4
    have HBF := Hid.mk hbf
    clear hS2 hS3 hR2 hR3 hH3 hH4 ht3 hbf hbo
    go_wp2_with fail
    have htm3 : c3.time = st.time := HR3.out.time
    have hmt3 : c3.mats = m := HR3.out.mats
    refine (tellFilled_any b c3 _ o.token o.shares f.price w3 HR3.out.B HR3.out.tm.1 HR3.out.tm.2 HR3.out.A HR3.out.dist.ab (by simp [St.say, St.fill, St.head, enc_length]; omega) ho (by omega) hpr).mono ?_
    rintro e w4 ⟨rfl, ht4⟩
    obtain ⟨c4, hR4, hS4, hp4, -⟩ := HR3.out.tellA (l := ({ st with mats := m } : St).fill o.token o.shares f.price m) ht4 (by
      rw [htm3, hmt3]; unfold St.fill St.head; simp)
    have hH5 := HH4.out.tellA (l := ({ st with mats := m } : St).fill o.token o.shares f.price m) (c' := c4) HR3.out.dist ht4 hp4
    have hS24 := HS3.out.trans hS4
    have v2 := hS24.fr.cell HBF.out.c2 ng1
    have HS24 := Hid.mk hS24
    have HR4 := Hid.mk hR4
    have HH5 := Hid.mk hH5
    clear hS24 hS4 hR4 hH5 ht4 u3 u6
    go_wp2_with fail
    have htm4 : c4.time = st.time := HR4.out.time
    have hmt4 : c4.mats = m := HR4.out.mats
    refine (tapeExecuted_any b c4 st.tape f.ref o.shares w4 HR4.out.B HR4.out.tm.1 HR4.out.tm.2 HR4.out.T HR4.out.dist.tb (by omega) href (by omega)).mono ?_
    rintro e w5 ⟨rfl, ht5⟩
    obtain ⟨c5, hR5, hS5, hp5, -⟩ := HR4.out.tellT (l := st.head 101 ++ enc f.ref 4 ++ enc o.shares 2 ++ enc m 4) ht5 (by
      rw [htm4, hmt4]; show st.tape ++ _ ++ _ ++ _ ++ _ = st.tape ++ _; unfold St.head; simp)
    have hH6 := HH5.out.tellT (l := st.head 101 ++ enc f.ref 4 ++ enc o.shares 2 ++ enc m 4) (c' := c5) HR4.out.dist ht5 hp5
    have HS25 := Hid.mk (HS24.out.trans hS5)
    have HR5 := Hid.mk hR5
    have HH6 := Hid.mk hH6
    clear hS5 hR5 hH6 ht5 v2
    go_wp2_with fail
    refine (reduce_step b c5 k _ M od ps fl x o.shares f w5 HR5.out HH6.out hf HV.out HX.out (by omega)).mono ?_
    rintro e w6 ⟨rfl, c6, hR6, hS6⟩
    have HR6 := Hid.mk hR6
    have HS6 := Hid.mk hS6
    clear hR6 hS6
    go_wp2_with fail
    go_ret
    refine ⟨rfl, c6, ?_, HS2.out.trans (HS25.out.trans HS6.out)⟩
    have e : st.execute o f o.shares = (((({ st with mats := m } : St).say (({ st with mats := m } : St).fill f.token o.shares f.price m)).say (({ st with mats := m } : St).fill o.token o.shares f.price m)).put (st.head 101 ++ enc f.ref 4 ++ enc o.shares 2 ++ enc m 4)).upd f.stock f.side f.price (redO f.token o.shares) := by
      rw [← HM.out]
      rfl
    rw [e]
    exact HR6.out
  · have hmin2 : ¬ ((o.shares : Int) ≤ (f.shares : Int)) := by omega
    have hmn := HN.out
    clear hnm
    obtain rfl : n = f.shares := by omega
    go_wp2_with fail
    generalize hOb2 : Obj.cells _ 129 = Ob2
    have hW2 : Fr (fun j => j = b) w1 (w1.setCell ⟨b, 17, none⟩ (.int .u32 m)) := Fr.setCell w1 ⟨b, 17, none⟩ _
    have hi2 : Inv { st with mats := m } := HR.out.inv.of_q rfl rfl rfl rfl (fun _ q => q) HR.out.inv.refs (by show m < _; rw [← HM.out]; exact Nat.mod_lt _ (by decide)) HR.out.inv.time
    have hown := HR1.out.own (c' := { c with mats := m }) (st' := { st with mats := m }) (HR1.out.B.setMats m) hW2 rfl rfl rfl rfl rfl rfl HR1.out.time HR1.out.refs rfl hi2 rfl rfl rfl rfl rfl
    have hH2 : Holds (w1.setCell ⟨b, 17, none⟩ (.int .u32 m)) { c with mats := m } k { st with mats := m } M od ps fl := (HH.out.quiet HF1.out).own hd hW2 rfl hi2 rfl rfl rfl rfl rfl
    have hA2 : Fr (fun _ => False) (w1.setCell ⟨b, 17, none⟩ (.int .u32 m)) ((w1.setCell ⟨b, 17, none⟩ (.int .u32 m)).alloc Ob2) := Fr.alloc _ _ _
    have hs1 : (w1.setCell ⟨b, 17, none⟩ (.int .u32 m)).heap.size = w1.heap.size := by simp [World.setCell]
    have hbf : Box ((w1.setCell ⟨b, 17, none⟩ (.int .u32 m)).alloc Ob2) w1.heap.size aa zz f := Box.of (t := 129) (by rw [heap_alloc, if_pos hs1.symm, ← hOb2]; rfl)
    have hbo : Box ((w1.setCell ⟨b, 17, none⟩ (.int .u32 m)).alloc Ob2) w.heap.size a z o := (HBX1.out.fr hW2 (fun e => by have e : w.heap.size = b := e; omega)).fr hA2 (fun e => e)
    have hS2 : Stp w b c k ((w1.setCell ⟨b, 17, none⟩ (.int .u32 m)).alloc Ob2) { c with mats := m } := (Stp.quiet HF1.out).trans (Stp.trans (c1 := { c with mats := m }) ⟨hown.2.1, fun j hj => Or.inl (hown.2.2 j hj), rfl, rfl, rfl⟩ (Stp.quiet hA2))
    have hR2 := hown.1.quiet hA2
    have hH3 := hH2.quiet hA2
    have hgl2 : w1.heap.size < ((w1.setCell ⟨b, 17, none⟩ (.int .u32 m)).alloc Ob2).heap.size := by rw [size_alloc, hs1]; omega
    clear hOb2 hW2 hown hH2 hA2 hs1 hi2 g17 f17 p3 p7
    generalize ((w1.setCell ⟨b, 17, none⟩ (.int .u32 m)).alloc Ob2) = V at hbf hbo hS2 hR2 hH3 hgl2 ⊢
    obtain ⟨c2, hc2⟩ : ∃ c2, c2 = ({ c with mats := m } : BC) := ⟨_, rfl⟩
    have hpm2 : c2.pm = c.pm := by rw [hc2]
    have hgb2 : ∀ j, GB b c2 k j → j < w.heap.size := by rw [hc2]; exact hgb
    rw [← hc2] at hS2 hR2 hH3
    clear hc2
    have ng0 : ¬ GB b c2 k w.heap.size := fun e => by have := hgb2 _ e; omega
    have ng1 : ¬ GB b c2 k w1.heap.size := fun e => by have := hgb2 _ e; omega
    have htm2 : c2.time = st.time := hR2.time
    have hmt2 : c2.mats = m := hR2.mats
    refine (tellFilled_any b c2 st.ans f.token f.shares f.price V hR2.B hR2.tm.1 hR2.tm.2 hR2.A hR2.dist.ab (by omega) htok (by omega) hpr).mono ?_
    rintro e w3 ⟨rfl, ht3⟩
    obtain ⟨c3, hR3, hS3, hp3, -⟩ := hR2.tellA (l := ({ st with mats := m } : St).fill f.token f.shares f.price m) ht3 (by
      rw [htm2, hmt2]; unfold St.fill St.head; simp)
    have hH4 := hH3.tellA (l := ({ st with mats := m } : St).fill f.token f.shares f.price m) (c' := c3) hR2.dist ht3 hp3
    have u3 := hS3.fr.cell hbo.c3 ng0
    have u6 := hS3.fr.cell hbf.c6 ng1
    have HS2 := Hid.mk hS2
    have HS3 := Hid.mk hS3
    have HR3 := Hid.mk hR3
    have HH4 := Hid.mk hH4
    have HBF := Hid.mk hbf
    clear hS2 hS3 hR2 hR3 hH3 hH4 ht3 hbf hbo
    go_wp2_with fail
    have htm3 : c3.time = st.time := HR3.out.time
    have hmt3 : c3.mats = m := HR3.out.mats
    refine (tellFilled_any b c3 _ o.token f.shares f.price w3 HR3.out.B HR3.out.tm.1 HR3.out.tm.2 HR3.out.A HR3.out.dist.ab (by simp [St.say, St.fill, St.head, enc_length]; omega) ho (by omega) hpr).mono ?_
    rintro e w4 ⟨rfl, ht4⟩
    obtain ⟨c4, hR4, hS4, hp4, -⟩ := HR3.out.tellA (l := ({ st with mats := m } : St).fill o.token f.shares f.price m) ht4 (by
      rw [htm3, hmt3]; unfold St.fill St.head; simp)
    have hH5 := HH4.out.tellA (l := ({ st with mats := m } : St).fill o.token f.shares f.price m) (c' := c4) HR3.out.dist ht4 hp4
    have hS24 := HS3.out.trans hS4
    have v2 := hS24.fr.cell HBF.out.c2 ng1
    have HS24 := Hid.mk hS24
    have HR4 := Hid.mk hR4
    have HH5 := Hid.mk hH5
    clear hS24 hS4 hR4 hH5 ht4 u3 u6
    go_wp2_with fail
    have htm4 : c4.time = st.time := HR4.out.time
    have hmt4 : c4.mats = m := HR4.out.mats
    refine (tapeExecuted_any b c4 st.tape f.ref f.shares w4 HR4.out.B HR4.out.tm.1 HR4.out.tm.2 HR4.out.T HR4.out.dist.tb (by omega) href (by omega)).mono ?_
    rintro e w5 ⟨rfl, ht5⟩
    obtain ⟨c5, hR5, hS5, hp5, -⟩ := HR4.out.tellT (l := st.head 101 ++ enc f.ref 4 ++ enc f.shares 2 ++ enc m 4) ht5 (by
      rw [htm4, hmt4]; show st.tape ++ _ ++ _ ++ _ ++ _ = st.tape ++ _; unfold St.head; simp)
    have hH6 := HH5.out.tellT (l := st.head 101 ++ enc f.ref 4 ++ enc f.shares 2 ++ enc m 4) (c' := c5) HR4.out.dist ht5 hp5
    have HS25 := Hid.mk (HS24.out.trans hS5)
    have HR5 := Hid.mk hR5
    have HH6 := Hid.mk hH6
    clear hS5 hR5 hH6 ht5 v2
    go_wp2_with fail
    refine (reduce_step b c5 k _ M od ps fl x f.shares f w5 HR5.out HH6.out hf HV.out HX.out (by omega)).mono ?_
    rintro e w6 ⟨rfl, c6, hR6, hS6⟩
    have HR6 := Hid.mk hR6
    have HS6 := Hid.mk hS6
    clear hR6 hS6
    go_wp2_with fail
    go_ret
    refine ⟨rfl, c6, ?_, HS2.out.trans (HS25.out.trans HS6.out)⟩
    have e : st.execute o f f.shares = (((({ st with mats := m } : St).say (({ st with mats := m } : St).fill f.token f.shares f.price m)).say (({ st with mats := m } : St).fill o.token f.shares f.price m)).put (st.head 101 ++ enc f.ref 4 ++ enc f.shares 2 ++ enc m 4)).upd f.stock f.side f.price (redO f.token f.shares) := by
      rw [← HM.out]
      rfl
    rw [e]
    exact HR6.out

end Go.Proofs.Ytphkchjejbffeaa

/- Plain: books are sorted and not crossed; what no message changes. -/
namespace Go.Proofs.Ytphkchjejbffeaa

/-- What no call changes, and what no message but a closing one does. -/
structure Same (a b : St) : Prop where
  stocks : b.stocks = a.stocks
  levels : b.levels = a.levels
  pool : b.pool = a.pool
theorem Same.refl (a : St) : Same a a := ⟨rfl, rfl, rfl⟩
theorem Same.trans {a b c : St} (h : Same a b) (k : Same b c) : Same a c := ⟨k.stocks.trans h.stocks, k.levels.trans h.levels, k.pool.trans h.pool⟩

structure Keeps (a b : St) : Prop where
  same : Same a b
  opn : b.opn = a.opn
  part : b.part = a.part
  time : b.time = a.time
theorem Keeps.refl (a : St) : Keeps a a := ⟨Same.refl a, rfl, rfl, rfl⟩
theorem Keeps.trans {a b c : St} (h : Keeps a b) (k : Keeps b c) : Keeps a c := ⟨h.same.trans k.same, k.opn.trans h.opn, k.part.trans h.part, k.time.trans h.time⟩

theorem keeps_execute (st : St) (o f : Ord) (n : Nat) : Keeps st (st.execute o f n) := ⟨⟨rfl, rfl, rfl⟩, rfl, rfl, rfl⟩
theorem keeps_meet (k : Nat) : ∀ (st : St) (o : Ord), Keeps st (st.meet k o).1 := by
  induction k with
  | zero => intro st o; exact Keeps.refl _
  | succ k ih =>
    intro st o
    simp only [St.meet]
    split
    · exact Keeps.refl _
    · split
      · exact Keeps.refl _
      · exact (keeps_execute _ _ _ _).trans (ih _ _)
theorem keeps_rest (st : St) (o : Ord) : Keeps st (st.rest o) := ⟨⟨rfl, rfl, rfl⟩, rfl, rfl, rfl⟩
theorem keeps_say (st : St) (l : List UInt8) : Keeps st (st.say l) := ⟨⟨rfl, rfl, rfl⟩, rfl, rfl, rfl⟩
theorem keeps_enter (st : St) (t : Nat) (side : UInt8) (stock price shares : Nat) (kind : UInt8) : Keeps st (st.enter t side stock price shares kind) := by
  unfold St.enter
  split
  · exact keeps_say _ _
  · dsimp only
    have h1 : Keeps st (st.accept { ref := (st.refs + 1) % 4294967296, token := t, side := side, stock := stock, price := price, shares := shares } kind) := ⟨⟨rfl, rfl, rfl⟩, rfl, rfl, rfl⟩
    have h2 := h1.trans (keeps_meet 65 _ { ref := (st.refs + 1) % 4294967296, token := t, side := side, stock := stock, price := price, shares := shares })
    split
    · exact h2
    · split
      · exact h2.trans (keeps_rest _ _)
      · exact h2.trans (keeps_say _ _)
theorem keeps_cancel (st : St) (t n : Nat) : Keeps st (st.cancel t n) := by
  unfold St.cancel
  split
  · exact Keeps.refl _
  · split
    · exact Keeps.refl _
    · dsimp only
      split <;> exact ⟨⟨rfl, rfl, rfl⟩, rfl, rfl, rfl⟩
theorem keeps_replace (st : St) (t n price shares : Nat) : Keeps st (st.replace t n price shares) := by
  unfold St.replace
  split
  · exact Keeps.refl _
  · split
    · exact keeps_say _ _
    · dsimp only
      split
      · split <;> exact ⟨⟨rfl, rfl, rfl⟩, rfl, rfl, rfl⟩
      · split
        · refine Keeps.trans ?_ (keeps_meet 65 _ _)
          exact ⟨⟨rfl, rfl, rfl⟩, rfl, rfl, rfl⟩
        · refine Keeps.trans ?_ (keeps_rest _ _)
          refine Keeps.trans ?_ (keeps_meet 65 _ _)
          exact ⟨⟨rfl, rfl, rfl⟩, rfl, rfl, rfl⟩

theorem same_act (st : St) (m : List UInt8) : Same st (st.act m) := by
  unfold St.act
  split
  · exact (keeps_enter _ _ _ _ _ _ _).same
  · split
    · exact (keeps_replace _ _ _ _ _).same
    · split
      · exact (keeps_cancel _ _ _).same
      · exact ⟨rfl, rfl, rfl⟩
theorem same_step (st : St) (c : UInt8) : Same st (st.step c) := by
  unfold St.step
  split
  · split
    · exact Same.trans (b := { st with part := [] }) ⟨rfl, rfl, rfl⟩ (same_act _ _)
    · exact ⟨rfl, rfl, rfl⟩
  · exact Same.refl _
theorem same_feed (l : List UInt8) : ∀ st : St, Same st (st.feed l) := by
  induction l with
  | nil => intro st; exact Same.refl _
  | cons c l ih => intro st; exact (same_step st c).trans (ih _)

/-- One order ahead of another in a book. -/
def Ahead (p x : Ord) : Prop := (p.side = 66 ∧ x.side = 66 ∧ x.price ≤ p.price) ∨ (p.side = 83 ∧ x.side = 83 ∧ p.price ≤ x.price) ∨ (p.side = 66 ∧ x.side = 83 ∧ p.price < x.price)

theorem pair_map_range {α : Type} (R : α → α → Prop) (f : Nat → α) (n : Nat) (h : ∀ i j, i < j → j < n → R (f i) (f j)) : List.Pairwise R ((List.range n).map f) := by
  rw [List.pairwise_map]
  have := @List.pairwise_lt_range n
  refine List.Pairwise.imp_of_mem ?_ this
  intro a b ha hb hab
  exact h a b hab (by simpa using hb)

theorem ahead_book {st : St} (h : Inv st) (s : Nat) : List.Pairwise Ahead (st.book s) := by
  rw [book_eq, List.pairwise_flatMap]
  have hfit : ∀ (c : Co) (x : Ord), x ∈ st.get c → Fits c.1 c.2.1 c.2.2 x := fun c x hx => h.ord _ _ _ x hx
  constructor
  · rintro ⟨s', d, p⟩ hc
    obtain ⟨-, hd, -, -⟩ := (mem_bookCo _ _ _).1 hc
    refine List.Pairwise.imp_of_mem (R := fun _ _ => True) ?_ ?_
    · intro a b ha hb _
      have fa := hfit _ a ha
      have fb := hfit _ b hb
      have ha1 := fa.side
      have hb1 := fb.side
      have ha2 := fa.price
      have hb2 := fb.price
      simp only at ha1 hb1 ha2 hb2 hd
      rcases hd with rfl | rfl
      · exact .inl ⟨ha1, hb1, by omega⟩
      · exact .inr (.inl ⟨ha1, hb1, by omega⟩)
    · exact List.pairwise_of_forall (fun _ _ => trivial)
  · unfold bookCo
    rw [List.pairwise_append]
    refine ⟨?_, ?_, ?_⟩
    · refine pair_map_range _ _ _ ?_
      intro i j hij hj x hx y hy
      have fx := hfit _ x hx
      have fy := hfit _ y hy
      exact .inl ⟨fx.side, fy.side, by rw [fx.price, fy.price]; show st.levels - j ≤ st.levels - i; omega⟩
    · refine pair_map_range _ _ _ ?_
      intro i j hij hj x hx y hy
      have fx := hfit _ x hx
      have fy := hfit _ y hy
      exact .inr (.inl ⟨fx.side, fy.side, by rw [fx.price, fy.price]; show i + 1 ≤ j + 1; omega⟩)
    · intro a ha b hb x hx y hy
      simp only [bidCo, askCo, List.mem_map] at ha hb
      obtain ⟨i, _, rfl⟩ := ha
      obtain ⟨j, _, rfl⟩ := hb
      have fx := hfit _ x hx
      have fy := hfit _ y hy
      refine .inr (.inr ⟨fx.side, fy.side, ?_⟩)
      rw [fx.price, fy.price]
      exact h.unc s _ _ (List.ne_nil_of_mem hx) (List.ne_nil_of_mem hy)

theorem book_each {st : St} (h : Inv st) (s : Nat) (x : Ord) (hx : x ∈ st.book s) : x.stock = s ∧ 1 ≤ x.price ∧ x.price ≤ st.levels ∧ 1 ≤ x.shares ∧ x.shares ≤ 9999 ∧ (x.side = 66 ∨ x.side = 83) ∧ x.ref < 4294967296 ∧ x.token < 4294967296 := by
  rw [book_eq, List.mem_flatMap] at hx
  obtain ⟨⟨s', d, p⟩, hc, hx⟩ := hx
  obtain ⟨e, hd, h1, h2⟩ := (mem_bookCo _ _ _).1 hc
  have f := h.ord _ _ _ x hx
  simp only at e hd h1 h2
  subst e
  exact ⟨f.stock, by rw [f.price]; exact h1, by rw [f.price]; exact h2, f.least, f.most, by rw [f.side]; exact hd, f.ref, f.token⟩

theorem book_pair {st : St} (h : Inv st) (s i : Nat) (f p x : Ord) (hf : (st.book s)[0]? = some f) (hp : (st.book s)[i]? = some p) (hx : (st.book s)[i + 1]? = some x) :
    (p.side = 66 ∧ x.side = 66 ∧ x.price ≤ p.price) ∨ (p.side = 83 ∧ x.side = 83 ∧ p.price ≤ x.price) ∨ (p.side = 66 ∧ x.side = 83 ∧ f.price < x.price) := by
  have hpw := ahead_book h s
  rw [List.pairwise_iff_getElem] at hpw
  have get : ∀ (k : Nat) (z : Ord), (st.book s)[k]? = some z → ∃ hk : k < (st.book s).length, (st.book s)[k] = z := fun k z hz => List.getElem?_eq_some_iff.1 hz
  obtain ⟨k0, e0⟩ := get 0 f hf
  obtain ⟨k1, e1⟩ := get i p hp
  obtain ⟨k2, e2⟩ := get (i + 1) x hx
  have a1 := hpw i (i + 1) k1 k2 (by omega)
  rw [e1, e2] at a1
  rcases a1 with a1 | a1 | ⟨a1, a2, a3⟩
  · exact .inl a1
  · exact .inr (.inl a1)
  · refine .inr (.inr ⟨a1, a2, ?_⟩)
    have b1 := hpw 0 (i + 1) k0 k2 (by omega)
    rw [e0, e2] at b1
    rcases b1 with ⟨_, b2, _⟩ | ⟨b1, _, _⟩ | ⟨_, _, b3⟩
    · rw [a2] at b2; exact absurd b2 (by decide)
    · by_cases hi : i = 0
      · subst hi
        rw [hf] at hp
        cases hp
        rw [a1] at b1; exact absurd b1 (by decide)
      · have c1 := hpw 0 i k0 k1 (by omega)
        rw [e0, e1] at c1
        rcases c1 with ⟨c1, _, _⟩ | ⟨_, c2, _⟩ | ⟨c1, _, _⟩
        · rw [b1] at c1; exact absurd c1 (by decide)
        · rw [a1] at c2; exact absurd c2 (by decide)
        · rw [b1] at c1; exact absurd c1 (by decide)
    · exact b3

end Go.Proofs.Ytphkchjejbffeaa
