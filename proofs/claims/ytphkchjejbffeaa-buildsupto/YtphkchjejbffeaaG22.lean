/- The walks of rebuilt's left, lessen, put, add. -/
import Derived.Test.YtphkchjejbffeaaG21
namespace Go.Proofs.Ytphkchjejbffeaa
open Go.RowKit
attribute [local go_sem ↓] Go.wp_at_zero Go.wp_at_succ

set_option maxRecDepth 100000 in
set_option maxHeartbeats 1000000 in
theorem left_any {w : World} {base r : Nat} {L : List Ord} {v : Value} {pm n : Nat} {M : Nat → Option Nat} (h : RbC w base r L v pm n M) (hx : Ix L M) (t : Nat) (ht : t < 4294967296) :
    Calls Try.prog 92 #[.pointer (some ⟨r, 0, none⟩), .int .u32 t] w fun e w' => e = .returned (.int .u16 (leftL L t)) ∧ w' = w := by
  obtain ⟨g0, g1, -, -⟩ := h.cells
  have hlk0 := h.map.lookOk t ht
  obtain ⟨ra, cap, rfl, hc1, hc2, hcs⟩ := h.row.form
  cases hM : M t with
  | none =>
    have HL : Hid (leftL L t = 0) := by have := hx.left t; rw [hM] at this; exact this
    rw [hM] at hlk0
    have hlk : (Instr.lookup 78 (.map (some pm)) (.int .u32 t) true).run Try.prog w = .ok (.tuple #[.int .i64 0, .bool false]) w := hlk0
    clear hlk0 h hx hcs hM
    go_enter Try.func92, Try.ntmps92
    go_wp2_with fail
    go_ret
    exact ⟨by rw [HL.out]; rfl, rfl⟩
  | some p =>
    obtain ⟨o, ho, hr, hlv⟩ := hx.found hM
    obtain ⟨g, rfl, -, -, -, hrg⟩ := hcs p o ho
    have HL : Hid (leftL L t = o.shares) := liv_left hlv
    have c7 : w.cell? ⟨g, p * 8 + 7, none⟩ = some (.int .u16 o.shares) := hrg 7 _ rfl
    have hp := (List.getElem?_eq_some_iff.1 ho).1
    have i1 : (p : Int) < (L.length : Int) := by omega
    have i2 : (0 : Int) ≤ (p : Int) := by omega
    rw [hM] at hlk0
    have hlk : (Instr.lookup 78 (.map (some pm)) (.int .u32 t) true).run Try.prog w = .ok (.tuple #[.int .i64 (p : Int), .bool true]) w := hlk0
    clear hlk0 h hx hcs hM hlv hr ho hrg
    go_enter Try.func92, Try.ntmps92
    go_wp2_with fail
    go_ret
    exact ⟨by rw [HL.out]; rfl, rfl⟩

/-- What both walks of lessen need. -/
structure Less (w : World) (base r : Nat) (L : List Ord) (g cap pm n : Nat) (M : Nat → Option Nat) (t p : Nat) (o : Ord) : Prop where
  rb : RbC w base r L (.slice (some ⟨g, 0, none⟩) L.length cap) pm n M
  M : M t = some p
  o : L[p]? = some o

theorem RbC.less {w : World} {base r : Nat} {L : List Ord} {v : Value} {pm n : Nat} {M : Nat → Option Nat} (h : RbC w base r L v pm n M) {t p : Nat} {o : Ord} (hM : M t = some p) (ho : L[p]? = some o) : ∃ g cap, v = .slice (some ⟨g, 0, none⟩) L.length cap ∧ L.length ≤ cap ∧ cap ≤ maxLen ∧ Less w base r L g cap pm n M t p o := by
  obtain ⟨ra, cap, rfl, hc1, hc2, hcs⟩ := h.row.form
  obtain ⟨g, rfl, -, -, -, hrg⟩ := hcs p o ho
  exact ⟨g, cap, rfl, hc1, hc2, ⟨h, hM, ho⟩⟩

set_option maxRecDepth 100000 in
set_option maxHeartbeats 2000000 in
theorem lessen_part {w : World} {base r : Nat} {L : List Ord} {v : Value} {pm n : Nat} {M : Nat → Option Nat} (h : RbC w base r L v pm n M) (hb : base ≤ w.heap.size) (t p m d : Nat) (o : Ord) (ht : t < 4294967296) (hM : M t = some p) (ho : L[p]? = some o) (hm : o.shares = m + d) (hd : d ≠ 0) (hs : o.shares < 65536) :
    Calls Try.prog 95 #[.pointer (some ⟨r, 0, none⟩), .int .u32 t, .int .u16 m] w fun e w' => e = .returned (.tuple #[]) ∧ RbC w' base r (L.set p { o with shares := d }) v pm n M ∧ Below base w w' := by
  obtain ⟨g, cap, rfl, hc1, hc2, hl⟩ := h.less hM ho
  obtain ⟨g0, g1, -, -⟩ := h.cells
  have hlk0 := h.map.look t ht
  rw [hM] at hlk0
  obtain ⟨ra', cap', hv', -, -, hcs⟩ := h.row.form
  obtain ⟨g', hg', hbg, -, hfz, hrg⟩ := hcs p o ho
  simp only [Value.slice.injEq] at hv'
  obtain ⟨hv1, -, -⟩ := hv'
  rw [hg'] at hv1
  simp only [Option.some.injEq, Addr.mk.injEq, and_true] at hv1
  subst hv1
  have c7 : w.cell? ⟨g, p * 8 + 7, none⟩ = some (.int .u16 o.shares) := hrg 7 _ rfl
  have f7 := hfz (p * 8 + 7)
  have hp := (List.getElem?_eq_some_iff.1 ho).1
  have i1 : (p : Int) < (L.length : Int) := by omega
  have i2 : (0 : Int) ≤ (p : Int) := by omega
  have hlk : (Instr.lookup 78 (.map (some pm)) (.int .u32 t) false).run Try.prog w.drew = .ok (.int .i64 (p : Int)) w.drew := by
    have := (h.map.keep (w' := w.drew) rfl).look t ht
    rw [hM] at this
    exact this
  have m0 : w.drew.cell? ⟨r, 0, none⟩ = some (.slice (some ⟨g, 0, none⟩) L.length cap) ∧ w.drew.cell? ⟨r, 1, none⟩ = some (.map (some pm)) ∧ (Instr.lookup 78 (.map (some pm)) (.int .u32 t) false).run Try.prog w.drew = .ok (.int .i64 (p : Int)) w.drew := ⟨g0, g1, hlk⟩
  have HFin : Hid (∀ W : World, W = (w.drew.setCell ⟨g, p * 8 + 7, none⟩ (.int .u16 d)) → RbC W base r (L.set p { o with shares := d }) (.slice (some ⟨g, 0, none⟩) L.length cap) pm n M ∧ Below base w W) := by
    rintro W rfl
    have hf : Fr (fun k => k = g) w (w.drew.setCell ⟨g, p * 8 + 7, none⟩ (.int .u16 d)) := (Fr.drew (fun k => k = g) w).trans (Fr.setCell w.drew ⟨g, p * 8 + 7, none⟩ _) (fun _ _ e => e)
    refine ⟨h.turnR (g := g) rfl hf ?_, hf.belowB hb hbg⟩
    exact OsAt.put (w := w.drew) (h.row.keep (fun _ _ => rfl)) p 7 o { o with shares := d } _ ho (by omega) rfl
  have b0 : ((d : Int) == 0) = false := by rw [beq_eq_false_iff_ne]; omega
  obtain ⟨y, hy⟩ : ∃ y : Int, y = (o.shares : Int) := ⟨_, rfl⟩
  rw [← hy] at c7
  have hym : y - (m : Int) = (d : Int) := by omega
  have w1 : IntKind.u16.wrap (d : Int) = (d : Int) := by rw [IntKind.wrap_u16]; omega
  clear h hl hlk0 hcs hrg hfz hlk hM ho hy hm hg'
  go_enter Try.func95, Try.ntmps95
  go_wp2_with fail
  go_region_held3 (fun w' => w'.cell? ⟨r, 0, none⟩ = some (.slice (some ⟨g, 0, none⟩) L.length cap) ∧ w'.cell? ⟨r, 1, none⟩ = some (.map (some pm)) ∧ (Instr.lookup 78 (.map (some pm)) (.int .u32 t) false).run Try.prog w' = .ok (.int .i64 (p : Int)) w') (first | with_reducible exact m0 | go_keep) (fail)
  rename_i hHeld
  clear hHeld m0
  go_wp2_with fail
  go_end0
  exact ⟨rfl, HFin.out _ rfl⟩

set_option maxRecDepth 100000 in
set_option maxHeartbeats 2000000 in
theorem lessen_all {w : World} {base r : Nat} {L : List Ord} {v : Value} {pm n : Nat} {M : Nat → Option Nat} (h : RbC w base r L v pm n M) (hb : base ≤ w.heap.size) (t p m : Nat) (o : Ord) (ht : t < 4294967296) (hM : M t = some p) (ho : L[p]? = some o) (hm : o.shares = m) (_hs : o.shares < 65536) :
    Calls Try.prog 95 #[.pointer (some ⟨r, 0, none⟩), .int .u32 t, .int .u16 m] w fun e w' => e = .returned (.tuple #[]) ∧ ∃ n', n' + 1 = n ∧ RbC w' base r (L.set p { o with shares := 0 }) v pm n' (updM M t none) ∧ Below base w w' ∧ Fr (fun k => v.ownBlock = some k ∨ k = pm) w w' := by
  obtain ⟨g, cap, rfl, hc1, hc2, hl⟩ := h.less hM ho
  obtain ⟨g0, g1, -, -⟩ := h.cells
  have hlk0 := h.map.look t ht
  rw [hM] at hlk0
  obtain ⟨ra', cap', hv', -, -, hcs⟩ := h.row.form
  obtain ⟨g', hg', hbg, -, hfz, hrg⟩ := hcs p o ho
  simp only [Value.slice.injEq] at hv'
  obtain ⟨hv1, -, -⟩ := hv'
  rw [hg'] at hv1
  simp only [Option.some.injEq, Addr.mk.injEq, and_true] at hv1
  subst hv1
  have c7 : w.cell? ⟨g, p * 8 + 7, none⟩ = some (.int .u16 o.shares) := hrg 7 _ rfl
  have f7 := hfz (p * 8 + 7)
  have hp := (List.getElem?_eq_some_iff.1 ho).1
  have i1 : (p : Int) < (L.length : Int) := by omega
  have i2 : (0 : Int) ≤ (p : Int) := by omega
  have hlk : (Instr.lookup 78 (.map (some pm)) (.int .u32 t) false).run Try.prog w.drew = .ok (.int .i64 (p : Int)) w.drew := by
    have := (h.map.keep (w' := w.drew) rfl).look t ht
    rw [hM] at this
    exact this
  have m0 : w.drew.cell? ⟨r, 0, none⟩ = some (.slice (some ⟨g, 0, none⟩) L.length cap) ∧ w.drew.cell? ⟨r, 1, none⟩ = some (.map (some pm)) ∧ (Instr.lookup 78 (.map (some pm)) (.int .u32 t) false).run Try.prog w.drew = .ok (.int .i64 (p : Int)) w.drew := ⟨g0, g1, hlk⟩
  have hgr : ¬ r = g := fun e => h.nr (by rw [e]; rfl)
  have hgp : ¬ pm = g := fun e => h.np (by rw [e]; rfl)
  have hf : Fr (fun k => k = g) w (w.drew.setCell ⟨g, p * 8 + 7, none⟩ (.int .u16 0)) := (Fr.drew (fun k => k = g) w).trans (Fr.setCell w.drew ⟨g, p * 8 + 7, none⟩ _) (fun _ _ e => e)
  have hr1 : RbC (w.drew.setCell ⟨g, p * 8 + 7, none⟩ (.int .u16 0)) base r (L.set p { o with shares := 0 }) (.slice (some ⟨g, 0, none⟩) L.length cap) pm n M :=
    h.turnR (g := g) rfl hf (OsAt.put (w := w.drew) (h.row.keep (fun _ _ => rfl)) p 7 o { o with shares := 0 } _ ho (by omega) rfl)
  have HB1 : Hid (Below base w (w.drew.setCell ⟨g, p * 8 + 7, none⟩ (.int .u16 0))) := hf.belowB hb hbg
  have HF1 := Hid.mk hf
  have HR1 := Hid.mk hr1
  have HMS : Hid ((M t).isSome = true) := by show _ = true; rw [hM]; rfl
  obtain ⟨y, hy⟩ : ∃ y : Int, y = (o.shares : Int) := ⟨_, rfl⟩
  rw [← hy] at c7
  have hym : y - (m : Int) = 0 := by omega
  obtain ⟨w3, n3, hrun, hM3, hn3, hf3⟩ := hr1.map.drop t ht 0
  have hrun2 : (Builtin.delete_ #[78, 77] 0 #[.map (some pm), .int .u32 t]).run Try.prog (w.setCell ⟨g, p * 8 + 7, none⟩ (.int .u16 0)).drew = .ok (.tuple #[]) w3 := hrun
  replace hM3 := Hid.mk hM3
  replace hn3 := Hid.mk hn3
  replace hf3 := Hid.mk hf3
  clear hrun
  clear h hl hlk0 hcs hrg hfz hlk hM ho hy hm hg' hf hr1
  go_enter Try.func95, Try.ntmps95
  go_wp2_with fail
  go_region_held3 (fun w' => w'.cell? ⟨r, 0, none⟩ = some (.slice (some ⟨g, 0, none⟩) L.length cap) ∧ w'.cell? ⟨r, 1, none⟩ = some (.map (some pm)) ∧ (Instr.lookup 78 (.map (some pm)) (.int .u32 t) false).run Try.prog w' = .ok (.int .i64 (p : Int)) w') (first | with_reducible exact m0 | go_keep) (fail)
  rename_i hHeld
  clear hHeld m0
  go_wp2_with fail
  go_end0
  refine ⟨rfl, n3, ?_, HR1.out.turnM hf3.out hM3.out, HB1.out.trans (hf3.out.belowB (Nat.le_trans hb HB1.out.size) HR1.out.bp), (HF1.out.mono (G := fun k => Value.ownBlock (.slice (some ⟨g, 0, none⟩) L.length cap) = some k ∨ k = pm) (fun k _ e => Or.inl (by rw [e]; rfl))).trans (hf3.out.mono (G := fun k => Value.ownBlock (.slice (some ⟨g, 0, none⟩) L.length cap) = some k ∨ k = pm) (fun _ _ e => Or.inr e)) (fun _ _ e => e)⟩
  have := hn3.out
  rw [HMS.out] at this
  simpa using this

theorem box_of {W : World} {g : Nat} {y : Ord} (h : W.heap[g]? = some (.cells (ordL 0 0 y).toArray 129)) : Box W g 0 0 y := Box.of h

set_option maxRecDepth 100000 in
set_option maxHeartbeats 2000000 in
theorem put_any {w : World} {base r : Nat} {L : List Ord} {v : Value} {pm n : Nat} {M : Nat → Option Nat} (h : RbC w base r L v pm n M) (hb : base ≤ w.heap.size) (p : Nat) (o y : Ord) (ho : L[p]? = some o) (hy : y.ref < 4294967296) (hn : n < maxLen) :
    Calls Try.prog 97 #[.pointer (some ⟨r, 0, none⟩), .int .i64 p, ordV 0 0 y] w fun e w' => e = .returned (.tuple #[]) ∧ RbC w' base r (L.set p y) v pm (if (M y.ref).isSome then n else n + 1) (updM M y.ref (some p)) ∧ Below base w w' := by
  obtain ⟨ra, cap, rfl, hc1, hc2, hcs⟩ := h.row.form
  obtain ⟨g, rfl, hbg, hgl, hfz, hrg⟩ := hcs p o ho
  have hp := (List.getElem?_eq_some_iff.1 ho).1
  have i1 : (p : Int) < (L.length : Int) := by omega
  have i2 : (0 : Int) ≤ (p : Int) := by omega
  obtain ⟨-, -, -, hrl⟩ := h.cells
  have hpl := h.map.lt
  have hgr : ¬ r = g := fun e => h.nr (by rw [e]; rfl)
  have hgp : ¬ pm = g := fun e => h.np (by rw [e]; rfl)
  have hrp : ¬ r = pm := h.ne
  have HH := Hid.mk (And.intro h ho)
  clear h hcs hfz hrg ho
  unfold ordV ordL
  go_enter Try.func97, Try.ntmps97
  go_wp2_with fail
  generalize hOb : Obj.cells _ 129 = Ob
  have hbx : Box (w.alloc Ob) w.heap.size 0 0 y := box_of (by rw [heap_alloc, if_pos rfl, ← hOb]; rfl)
  have h1 := HH.out.1.alloc Ob
  have hF0 : Below base w (w.alloc Ob) := (Below.refl base w).alloc hb Ob
  have hsz : (w.alloc Ob).heap.size = w.heap.size + 1 := size_alloc _ _
  clear hOb
  generalize w.alloc Ob = W at hbx h1 hF0 hsz ⊢
  obtain ⟨q0, q1, q2, q3, q4, q5, q6, q7⟩ := hbx
  obtain ⟨g0, g1, -, -⟩ := h1.cells
  obtain ⟨ra', cap', hv', -, -, hcs⟩ := h1.row.form
  obtain ⟨g', hg', -, -, hfz, hrg⟩ := hcs p o HH.out.2
  simp only [Value.slice.injEq] at hv'
  obtain ⟨hv1, -, -⟩ := hv'
  rw [hg'] at hv1
  simp only [Option.some.injEq, Addr.mk.injEq, and_true] at hv1
  subst hv1
  have t0 : W.cell? ⟨g, p * 8, none⟩ = some _ := hrg 0 _ rfl
  have t1 := hrg 1 _ rfl
  have t2 := hrg 2 _ rfl
  have t3 := hrg 3 _ rfl
  have t4 := hrg 4 _ rfl
  have t5 := hrg 5 _ rfl
  have t6 := hrg 6 _ rfl
  have t7 := hrg 7 _ rfl
  have fp0 := hfz (p * 8)
  have fp1 := hfz (p * 8 + 1)
  have fp2 := hfz (p * 8 + 2)
  have fp3 := hfz (p * 8 + 3)
  have fp4 := hfz (p * 8 + 4)
  have fp5 := hfz (p * 8 + 5)
  have fp6 := hfz (p * 8 + 6)
  have fp7 := hfz (p * 8 + 7)
  have hxr : ¬ w.heap.size = r := by omega
  have hxg : ¬ w.heap.size = g := by omega
  have hxp : ¬ w.heap.size = pm := by omega
  have hxr' : ¬ r = w.heap.size := by omega
  have hxg' : ¬ g = w.heap.size := by omega
  have hgr' : ¬ g = r := fun e => hgr e.symm
  have H1 := Hid.mk (And.intro h1 hF0)
  clear h1 hF0 hcs hfz hrg hg'
  go_region_held3 (fun w' => w'.cell? ⟨r, 0, none⟩ = some (.slice (some ⟨g, 0, none⟩) L.length cap) ∧ w'.cell? ⟨w.heap.size, 0, none⟩ = some (.int .i64 0) ∧ w'.cell? ⟨w.heap.size, 1, none⟩ = some (.int .i64 0) ∧ w'.cell? ⟨w.heap.size, 2, none⟩ = some (.int .u32 y.ref) ∧ w'.cell? ⟨w.heap.size, 3, none⟩ = some (.int .u32 y.token) ∧ w'.cell? ⟨w.heap.size, 4, none⟩ = some (.int .u8 y.side.toNat) ∧ w'.cell? ⟨w.heap.size, 5, none⟩ = some (.int .u8 y.stock) ∧ w'.cell? ⟨w.heap.size, 6, none⟩ = some (.int .u16 y.price) ∧ w'.cell? ⟨w.heap.size, 7, none⟩ = some (.int .u16 y.shares)) (go_keep) (fail)
  rename_i hHeld
  clear hHeld
  have hf2 : Hid (Fr (fun j => j = g) W (((((((((W.setCell ⟨g, p * 8, none⟩ (.int .i64 0)).setCell ⟨g, p * 8 + 1, none⟩ (.int .i64 0)).setCell ⟨g, p * 8 + 2, none⟩ (.int .u32 y.ref)).setCell ⟨g, p * 8 + 3, none⟩ (.int .u32 y.token)).setCell ⟨g, p * 8 + 4, none⟩ (.int .u8 y.side.toNat)).setCell ⟨g, p * 8 + 5, none⟩ (.int .u8 y.stock)).setCell ⟨g, p * 8 + 6, none⟩ (.int .u16 y.price)).setCell ⟨g, p * 8 + 7, none⟩ (.int .u16 y.shares)))) := by
    have := fr_setCells g (ordL 0 0 y) (p * 8) W
    rw [set8] at this
    exact this
  have hp2 : Hid (RbC (((((((((W.setCell ⟨g, p * 8, none⟩ (.int .i64 0)).setCell ⟨g, p * 8 + 1, none⟩ (.int .i64 0)).setCell ⟨g, p * 8 + 2, none⟩ (.int .u32 y.ref)).setCell ⟨g, p * 8 + 3, none⟩ (.int .u32 y.token)).setCell ⟨g, p * 8 + 4, none⟩ (.int .u8 y.side.toNat)).setCell ⟨g, p * 8 + 5, none⟩ (.int .u8 y.stock)).setCell ⟨g, p * 8 + 6, none⟩ (.int .u16 y.price)).setCell ⟨g, p * 8 + 7, none⟩ (.int .u16 y.shares))) base r (L.set p y) (.slice (some ⟨g, 0, none⟩) L.length cap) pm n M) := by
    have := OsAt.putAll (w := W) H1.out.1.row p o y HH.out.2
    rw [set8] at this
    exact H1.out.1.turnR (g := g) rfl hf2.out this
  generalize ((((((((W.setCell ⟨g, p * 8, none⟩ (.int .i64 0)).setCell ⟨g, p * 8 + 1, none⟩ (.int .i64 0)).setCell ⟨g, p * 8 + 2, none⟩ (.int .u32 y.ref)).setCell ⟨g, p * 8 + 3, none⟩ (.int .u32 y.token)).setCell ⟨g, p * 8 + 4, none⟩ (.int .u8 y.side.toNat)).setCell ⟨g, p * 8 + 5, none⟩ (.int .u8 y.stock)).setCell ⟨g, p * 8 + 6, none⟩ (.int .u16 y.price)).setCell ⟨g, p * 8 + 7, none⟩ (.int .u16 y.shares)) = w2 at hp2 hf2 ⊢
  have HD : Hid (RbC w2.drew base r (L.set p y) (.slice (some ⟨g, 0, none⟩) L.length cap) pm n M) := hp2.out.drewN 1
  have hfd : Hid (Fr (fun j => j = g) W w2.drew) := hf2.out.trans (Fr.drew (fun j => j = g) w2) (fun _ _ e => e)
  generalize w2.drew = V at HD hfd ⊢
  clear hp2 hf2
  replace q2 := hfd.out.cell q2 hxg
  have g1' := HD.out.cells.2.1
  obtain ⟨w3, hrun, hM3, hf3⟩ := (HD.out.map.keep (w' := V.drew) rfl).storeG y.ref p hy (by unfold maxLen at hc2; omega) hn
  have m2 : w3.cell? ⟨r, 1, none⟩ = some (.map (some pm)) ∧ w3.cell? ⟨w.heap.size, 2, none⟩ = some (.int .u32 y.ref) := ⟨hf3.cell (w := V.drew) g1' hrp, hf3.cell (w := V.drew) q2 hxp⟩
  replace hM3 := Hid.mk hM3
  replace hf3 := Hid.mk hf3
  clear q0 q1 q3 q4 q5 q6 q7 t0 t1 t2 t3 t4 t5 t6 t7 fp0 fp1 fp2 fp3 fp4 fp5 fp6 fp7 g0 g1
  go_wp2_with fail
  go_region_held3 (fun w' => w'.cell? ⟨r, 1, none⟩ = some (.map (some pm)) ∧ w'.cell? ⟨w.heap.size, 2, none⟩ = some (.int .u32 y.ref)) (first | exact m2 | go_keep) (fail)
  go_end0
  have hbW : base ≤ W.heap.size := Nat.le_trans hb H1.out.2.size
  have hB2 : Below base w V := H1.out.2.trans (hfd.out.belowB hbW hbg)
  have hB3 : Below base V w3 := (Below.refl base V).drew.trans (hf3.out.belowB (Nat.le_trans hb hB2.size) HH.out.1.bp)
  exact ⟨rfl, (HD.out.drewN 1).turnM hf3.out hM3.out, hB2.trans hB3⟩

def AppOp (ts : Array TypeId) (ty : TypeId) (args : Array Value) : Sem Value := Builtin.append_ ts ty args
theorem app_op (ts : Array TypeId) (ty : TypeId) (args : Array Value) : Builtin.append_ ts ty args = AppOp ts ty args := rfl
attribute [local go_sem ↓] app_op

theorem rdRow_lad (W : World) (y : Ord) : ∀ j u, (ordL 0 0 y)[j]? = some u → (W.alloc (.cells (ordL 0 0 y).toArray 129)).cell? ((⟨W.heap.size, 0, none⟩ : Addr).add j) = some u := by
  intro j u hu
  rw [Addr.add_lit, Nat.zero_add, cell_of_row _ W.heap.size j _ 129 (0, 0) (by rw [heap_alloc, if_pos rfl])]
  simpa using hu

set_option maxRecDepth 100000 in
set_option maxHeartbeats 4000000 in
theorem add_any {w : World} {base r : Nat} {L : List Ord} {v : Value} {pm n : Nat} {M : Nat → Option Nat} (h : RbC w base r L v pm n M) (hb : base ≤ w.heap.size) (y : Ord) (hy : y.ref < 4294967296) (hn : n < maxLen) (hL : L.length < 4398046511104) :
    Calls Try.prog 94 #[.pointer (some ⟨r, 0, none⟩), ordV 0 0 y] w fun e w' => e = .returned (.tuple #[]) ∧ ∃ v', RbC w' base r (L ++ [y]) v' pm (if (M y.ref).isSome then n else n + 1) (updM M y.ref (some L.length)) ∧ Below base w w' := by
  obtain ⟨ra, cap, rfl, hc1, hc2, -⟩ := h.row.form
  obtain ⟨-, -, -, hrl⟩ := h.cells
  have hpl := h.map.lt
  have hrp : ¬ r = pm := h.ne
  have HH := Hid.mk h
  clear h
  obtain ⟨i0, hi, hz0, hz1, hz2⟩ := info_parts Try.infoOrd
  have HI := Hid.mk (And.intro hi (And.intro hz0 (And.intro hz1 hz2)))
  clear hi hz0 hz1 hz2
  unfold ordV ordL
  go_enter Try.func94, Try.ntmps94
  go_wp2_with fail
  generalize hOb : Obj.cells _ 129 = Ob
  have hbx : Box (w.alloc Ob) w.heap.size 0 0 y := box_of (by rw [heap_alloc, if_pos rfl, ← hOb]; rfl)
  have h1 := HH.out.alloc Ob
  have hF0 : Below base w (w.alloc Ob) := (Below.refl base w).alloc hb Ob
  have hsz : (w.alloc Ob).heap.size = w.heap.size + 1 := size_alloc _ _
  clear hOb
  generalize w.alloc Ob = W at hbx h1 hF0 hsz ⊢
  have HBX := Hid.mk hbx
  obtain ⟨q0, q1, q2, q3, q4, q5, q6, q7⟩ := hbx
  obtain ⟨g0, -, -, -⟩ := h1.cells
  have hxr : ¬ w.heap.size = r := by omega
  have hxp : ¬ w.heap.size = pm := by omega
  have hxr' : ¬ r = w.heap.size := by omega
  have hbW : base ≤ W.heap.size := Nat.le_trans hb hF0.size
  obtain ⟨O, hO⟩ : ∃ O : Obj, O = .cells #[.int .i64 0, .int .i64 0, .int .u32 y.ref, .int .u32 y.token, .int .u8 y.side.toNat, .int .u8 y.stock, .int .u16 y.price, .int .u16 y.shares] 129 := ⟨_, rfl⟩
  have gA : (W.alloc O).cell? ⟨r, 0, none⟩ = some (.slice ra L.length cap) := by
    rw [World.cell?_alloc_some _ _ _ (by rw [g0]; rfl)]
    exact g0
  have hOA : (W.drew.alloc O).ownsRow base 129 8 (.slice ra L.length cap) L.length (L.flatMap (ordL 0 0)) := ownsRow_keep h1.row (fun g hg => by
    show (W.alloc O).heap[g]? = _
    rw [heap_alloc, if_neg (by have := (World.ownsRow.lt h1.row g hg).2; omega)])
  obtain ⟨v3, w3, hrun, hown3, hg3, -, -⟩ := run_append_own_at (P := Try.prog) (W.drew.alloc O) base 92 92 129 i0 _ 8 32 und_ords HI.out.1 HI.out.2.1 HI.out.2.2.1 HI.out.2.2.2 rfl (by decide) _ L.length _ hOA ⟨W.heap.size, 0, none⟩ 1 1 (ordL 0 0 y) rfl (by rw [hO]; exact rdRow_lad W.drew y) (ordL_one 0 0 y) (by unfold maxLen; omega) (by omega) (by show _ ≤ (W.alloc _).heap.size; rw [size_alloc]; omega)
  have hf3 : Fr (fun k => some k = Value.ownBlock (.slice ra L.length cap)) W w3 :=
    ((Fr.drew (fun k => some k = Value.ownBlock (.slice ra L.length cap)) W).trans (Fr.alloc (fun k => some k = Value.ownBlock (.slice ra L.length cap)) W.drew O) (fun _ _ e => e)).trans (Fr.of_grown hg3) (fun _ _ e => e)
  have HNX : Hid (∀ k, k = w.heap.size ∨ k = r ∨ k = pm → ¬ some k = Value.ownBlock (.slice ra L.length cap)) := by
    rintro k (rfl | rfl | rfl) e
    · have := (World.ownsRow.lt HH.out.row _ e.symm).2; omega
    · exact HH.out.nr e.symm
    · exact HH.out.np e.symm
  obtain ⟨rb, capb, rfl, -, -⟩ := ownsRow_len hown3
  obtain ⟨n1, hn1⟩ : ∃ n1, L.length + 1 = n1 := ⟨_, rfl⟩
  rw [hn1] at hrun hown3
  have b3 : w3.heap[r]? = _ := (hf3.block r (by omega) (HNX.out _ (Or.inr (Or.inl rfl)))).trans h1.blk
  have c3 : w3.cell? ⟨r, 0, none⟩ = _ := cell_of_row w3 r 0 _ _ (0, 0) b3
  have z3 : w3.frozen? ⟨r, 0, none⟩ = false := by simp [World.frozen?, b3]
  have hf4 : Fr (fun k => k = r) w3 (w3.setCell ⟨r, 0, none⟩ (.slice rb n1 capb)) := Fr.setCell w3 ⟨r, 0, none⟩ _
  have h4 : RbC (w3.setCell ⟨r, 0, none⟩ (.slice rb n1 capb)) base r (L ++ [y]) (.slice rb n1 capb) pm n M := by
    refine RbC.mk' ?_ ?_ ?_ h1.br h1.bp
    · rw [heap_setCell_same w3 r 0 _ _ _ b3]; rfl
    · unfold OsAt
      have e1 : (L ++ [y]).length = n1 := by rw [List.length_append]; exact hn1
      have e2 : (L ++ [y]).flatMap (ordL 0 0) = L.flatMap (ordL 0 0) ++ ordL 0 0 y := by simp
      rw [e1, e2]
      refine ownsRow_keep hown3 (fun g hg => hf4.block g (World.ownsRow.lt hown3 g hg).2 (fun e => ?_))
      rcases hown3.2 with ⟨e', -⟩ | ⟨g', cap', cur, e', -, e3, -⟩
      · rw [e'] at hg; cases hg
      · rw [e'] at hg
        cases hg
        have e4 : g' = r := e
        rw [e4, b3] at e3
        simp at e3
    · exact h1.map.keep ((hf4.block pm (Nat.lt_of_lt_of_le h1.map.lt hf3.size) (fun e => hrp e.symm)).trans (hf3.block pm h1.map.lt (HNX.out _ (Or.inr (Or.inr rfl)))))
  have q2' : (w3.setCell ⟨r, 0, none⟩ (.slice rb n1 capb)).cell? ⟨w.heap.size, 2, none⟩ = some (.int .u32 y.ref) := hf4.cell (hf3.cell q2 (HNX.out _ (Or.inl rfl))) hxr
  have hB4 : Below base w (w3.setCell ⟨r, 0, none⟩ (.slice rb n1 capb)) := by
    refine hF0.trans (Below.trans (b := w3) ?_ (hf4.belowB (Nat.le_trans hbW hf3.size) h1.br))
    exact hf3.below hbW (fun k e => (World.ownsRow.lt h1.row k e.symm).1)
  have H4 := Hid.mk (And.intro h4 (And.intro q2' hB4))
  have HSZ := Hid.mk hsz
  rw [hO] at hrun gA
  have hrun2 : (AppOp #[92, 92] 92 #[.slice ra L.length cap, .slice (some ⟨W.heap.size, 0, none⟩) 1 1]).run Try.prog ((W.alloc (.cells #[.int .i64 0, .int .i64 0, .int .u32 y.ref, .int .u32 y.token, .int .u8 y.side.toNat, .int .u8 y.stock, .int .u16 y.price, .int .u16 y.shares] 129)).drew) = .ok (.slice rb n1 capb) w3 := hrun
  have HN1 := Hid.mk hn1
  clear hrun h1 hF0 hown3 hg3 hf3 b3 hOA hsz hO h4 q2' hB4 hf4 HBX hn1
  go_region_with fail
  all_goals
    generalize w3.setCell ⟨r, 0, none⟩ (.slice rb n1 capb) = w4 at H4 ⊢
    clear hrun2 c3 z3 gA g0 q0 q1 q2 q3 q4 q5 q6 q7
    obtain ⟨g0, g1, -, -⟩ := H4.out.1.cells
    have q2 := H4.out.2.1
    obtain ⟨w5, hrun, hM5, hf5⟩ := (H4.out.1.map.keep (w' := w4.drew) rfl).storeG y.ref L.length hy (by omega) hn
    have m2 : w5.cell? ⟨r, 0, none⟩ = some (.slice rb n1 capb) ∧ w5.cell? ⟨r, 1, none⟩ = some (.map (some pm)) ∧ w5.cell? ⟨w.heap.size, 2, none⟩ = some (.int .u32 y.ref) := ⟨hf5.cell (w := w4.drew) g0 hrp, hf5.cell (w := w4.drew) g1 hrp, hf5.cell (w := w4.drew) q2 hxp⟩
    replace hM5 := Hid.mk hM5
    replace hf5 := Hid.mk hf5
    have hw1 : IntKind.i64.wrap ((n1 : Int) - 1) = (L.length : Int) := by rw [IntKind.wrap_i64]; have := HN1.out; omega
    go_wp2_with fail
    go_region_held3 (fun w' => w'.cell? ⟨r, 0, none⟩ = some (.slice rb n1 capb) ∧ w'.cell? ⟨r, 1, none⟩ = some (.map (some pm)) ∧ w'.cell? ⟨w.heap.size, 2, none⟩ = some (.int .u32 y.ref)) (first | exact m2 | go_keep) (fail)
    go_end0
    have hB5 : Below base w4 w5 := (Below.refl base w4).drew.trans (hf5.out.belowB (Nat.le_trans hb H4.out.2.2.size) HH.out.bp)
    exact ⟨rfl, _, (H4.out.1.drewN 1).turnM hf5.out hM5.out, H4.out.2.2.trans hB5⟩

end Go.Proofs.Ytphkchjejbffeaa

/- A 'rebuilt' against the list it stands for. -/
namespace Go.Proofs.Ytphkchjejbffeaa
open Go.RowKit
attribute [local go_sem ↓] Go.wp_at_zero Go.wp_at_succ

def RbAt (w : World) (base r : Nat) (L : List Ord) : Prop := ∃ v pm n M, RbC w base r L v pm n M ∧ Ix L M ∧ n ≤ L.length ∧ ∀ o ∈ L, o.small

theorem RbAt.keep {w w' : World} {base r : Nat} {L : List Ord} (h : RbAt w base r L) (hk : ∀ k, base ≤ k → k < w.heap.size → w'.heap[k]? = w.heap[k]?) : RbAt w' base r L := by
  obtain ⟨v, pm, n, M, h1, h2⟩ := h
  exact ⟨v, pm, n, M, h1.keep hk, h2⟩
theorem RbAt.alloc {w : World} {base r : Nat} {L : List Ord} (h : RbAt w base r L) (O : Obj) : RbAt (w.alloc O) base r L := h.keep (fun k _ hk => by rw [heap_alloc, if_neg (by omega)])
theorem RbAt.drewN {w : World} {base r : Nat} {L : List Ord} (h : RbAt w base r L) (q : Nat) : RbAt (w.drewN q) base r L := h.keep (fun _ _ _ => rfl)
theorem RbAt.small {w : World} {base r : Nat} {L : List Ord} (h : RbAt w base r L) : ∀ o ∈ L, o.small := by
  obtain ⟨v, pm, n, M, -, -, -, h⟩ := h
  exact h

theorem Ix.place {L : List Ord} {M : Nat → Option Nat} (h : Ix L M) {t : Nat} {o : Ord} (ho : liv L t = some o) : ∃ p, M t = some p ∧ L[p]? = some o := by
  cases hM : M t with
  | none => rw [h.unfound hM] at ho; cases ho
  | some p =>
    obtain ⟨o', h1, -, h2⟩ := h.found hM
    rw [ho] at h2
    cases h2
    exact ⟨p, rfl, h1⟩
theorem Ix.free {L : List Ord} {M : Nat → Option Nat} (h : Ix L M) {t : Nat} (ht : leftL L t = 0) : M t = none := by
  cases hM : M t with
  | none => rfl
  | some p =>
    obtain ⟨o, -, hr, hl⟩ := h.found hM
    rw [liv_left hl] at ht
    rw [isR_iff] at hr
    exact absurd ht hr.2
theorem liv_ref {L : List Ord} {t : Nat} {o : Ord} (h : liv L t = some o) : o.ref = t ∧ o.shares ≠ 0 ∧ o ∈ L := by
  have := (isR_iff _ _).1 (List.find?_some h)
  exact ⟨this.1, this.2, List.mem_of_find?_eq_some h⟩

theorem left_at {w : World} {base r : Nat} {L : List Ord} (h : RbAt w base r L) (t : Nat) (ht : t < 4294967296) :
    Calls Try.prog 92 #[.pointer (some ⟨r, 0, none⟩), .int .u32 t] w fun e w' => e = .returned (.int .u16 (leftL L t)) ∧ w' = w := by
  obtain ⟨v, pm, n, M, h1, h2, -, -⟩ := h
  exact left_any h1 h2 t ht

theorem mem_set {α : Type} {l : List α} {i : Nat} {y x : α} (h : x ∈ l.set i y) : x = y ∨ x ∈ l := by
  rcases List.mem_or_eq_of_mem_set h with h | h
  · exact .inr h
  · exact .inl h

theorem lessen_at {w : World} {base r : Nat} {L : List Ord} (h : RbAt w base r L) (hb : base ≤ w.heap.size) (t m : Nat) (o : Ord) (ht : t < 4294967296) (ho : liv L t = some o) (hm : m ≤ o.shares) :
    Calls Try.prog 95 #[.pointer (some ⟨r, 0, none⟩), .int .u32 t, .int .u16 m] w fun e w' => e = .returned (.tuple #[]) ∧ RbAt w' base r (lessL t m L) ∧ Below base w w' := by
  obtain ⟨v, pm, n, M, h1, h2, h3, h4⟩ := h
  obtain ⟨p, hM, hp⟩ := h2.place ho
  have hs := (h4 o (List.mem_of_getElem? hp))
  have hch := h2.ch hM hp (fun o => { o with shares := o.shares - m })
  have hsm : ∀ d, d ≤ o.shares → ∀ x ∈ L.set p { o with shares := d }, x.small := by
    intro d hd x hx
    rcases mem_set hx with rfl | hx
    · exact ⟨hs.ref, hs.token, hs.stock, hs.price, by have := hs.shares; show d < 65536; omega⟩
    · exact h4 x hx
  obtain ⟨hr1, hr2, -⟩ := liv_ref ho
  by_cases hd : o.shares = m
  · refine (lessen_all h1 hb t p m o ht hM hp hd hs.shares).mono ?_
    rintro e w' ⟨rfl, n', hn', hr, hB, -⟩
    refine ⟨rfl, ⟨v, pm, n', updM M t none, ?_, ?_, ?_, ?_⟩, hB⟩
    · unfold lessL
      rw [hch, show o.shares - m = 0 by omega]
      exact hr
    · unfold lessL
      rw [hch, show o.shares - m = 0 by omega]
      exact h2.dead hM hp rfl
    · unfold lessL
      rw [hch, List.length_set]
      omega
    · unfold lessL
      rw [hch]
      exact hsm _ (by omega)
  · refine (lessen_part h1 hb t p m (o.shares - m) o ht hM hp (by omega) (by omega) hs.shares).mono ?_
    rintro e w' ⟨rfl, hr, hB⟩
    refine ⟨rfl, ⟨v, pm, n, M, ?_, ?_, ?_, ?_⟩, hB⟩
    · unfold lessL
      rw [hch]
      exact hr
    · unfold lessL
      rw [hch]
      exact h2.part hM hp ((isR_iff _ _).2 ⟨hr1, by show o.shares - m ≠ 0; omega⟩)
    · unfold lessL
      rw [hch, List.length_set]
      exact h3
    · unfold lessL
      rw [hch]
      exact hsm _ (by omega)

theorem add_at {w : World} {base r : Nat} {L : List Ord} (h : RbAt w base r L) (hb : base ≤ w.heap.size) (y : Ord) (hy : y.small) (h0 : y.shares ≠ 0) (hl : leftL L y.ref = 0) (hL : L.length < 4398046511104) :
    Calls Try.prog 94 #[.pointer (some ⟨r, 0, none⟩), ordV 0 0 y] w fun e w' => e = .returned (.tuple #[]) ∧ RbAt w' base r (L ++ [y]) ∧ Below base w w' := by
  obtain ⟨v, pm, n, M, h1, h2, h3, h4⟩ := h
  have hM := h2.free hl
  refine (add_any h1 hb y hy.ref (by unfold maxLen; omega) hL).mono ?_
  rintro e w' ⟨rfl, v', hr, hB⟩
  rw [hM] at hr
  refine ⟨rfl, ⟨v', pm, n + 1, _, hr, h2.add hM h0, ?_, ?_⟩, hB⟩
  · rw [List.length_append]; simp; exact h3
  · intro x hx
    rcases List.mem_append.1 hx with hx | hx
    · exact h4 x hx
    · simp at hx
      rw [hx]
      exact hy

/-- The order with a reference is gone, and another one stands in its place. -/
theorem set_ix {L : List Ord} {M : Nat → Option Nat} (h : Ix L M) {t p : Nat} {o y : Ord} (hM : M t = some p) (hp : L[p]? = some o) (hy : y.shares ≠ 0) (hu : y.ref = t ∨ leftL L y.ref = 0) :
    (updM M t none) y.ref = none ∧ (L.set p { o with shares := 0 })[p]? = some { o with shares := 0 } ∧ Ix (L.set p y) (updM (updM M t none) y.ref (some p)) := by
  have hlt := (List.getElem?_eq_some_iff.1 hp).1
  have e1 : (updM M t none) y.ref = none := by
    by_cases e : y.ref = t
    · rw [e, updM_same]
    · rw [updM_ne _ _ _ _ e]
      rcases hu with hu | hu
      · exact absurd hu e
      · exact h.free hu
  have e2 : (L.set p { o with shares := 0 })[p]? = some { o with shares := 0 } := by rw [List.getElem?_set, if_pos rfl, if_pos hlt]
  refine ⟨e1, e2, ?_⟩
  have := (h.dead hM hp (y := { o with shares := 0 }) rfl).put e2 rfl e1 hy
  rwa [List.set_set] at this

end Go.Proofs.Ytphkchjejbffeaa

/- The walks of rebuilt's rests, executed, lessened, gone. -/
namespace Go.Proofs.Ytphkchjejbffeaa
open Go.RowKit
attribute [local go_sem ↓] Go.wp_at_zero Go.wp_at_succ
attribute [local go_sem] setCell_drewN drewN_drewN

/-- What a message of the tape does: an answer, and the list behind it. -/
def FolP (res : Option (List Ord)) (base r : Nat) (w : World) (e : Ending) (w' : World) : Prop :=
  Below base w w' ∧ ((res = none ∧ e = .returned (.bool false)) ∨ ∃ L', res = some L' ∧ e = .returned (.bool true) ∧ RbAt w' base r L')

theorem take32v (g o n cap t : Nat) (l : List UInt8) (w : World) (hn : l.length = n) (hl : 4 ≤ n) (hc : n ≤ cap) (hc2 : cap ≤ 9223372036854775807) (h : Lies w g o l) (ht : num (l.take 4) 0 = t) :
    Calls Try.prog 77 #[.slice (some ⟨g, o, none⟩) n cap] w fun e w' => ∃ o', e = .returned (.tuple #[.int .u32 t, .slice (some ⟨g, o', none⟩) (n - 4) (cap - 4)]) ∧ (4 < cap → o' = o + 4) ∧ ∃ n, w' = w.drewN n := by
  subst ht; exact take32n g o n cap l w hn hl hc hc2 h
theorem take16v (g o n cap t : Nat) (l : List UInt8) (w : World) (hn : l.length = n) (hl : 2 ≤ n) (hc : n ≤ cap) (hc2 : cap ≤ 9223372036854775807) (h : Lies w g o l) (ht : num (l.take 2) 0 = t) :
    Calls Try.prog 79 #[.slice (some ⟨g, o, none⟩) n cap] w fun e w' => ∃ o', e = .returned (.tuple #[.int .u16 t, .slice (some ⟨g, o', none⟩) (n - 2) (cap - 2)]) ∧ (2 < cap → o' = o + 2) ∧ ∃ n, w' = w.drewN n := by
  subst ht; exact take16n g o n cap l w hn hl hc hc2 h
theorem take8v (g o n cap t : Nat) (l : List UInt8) (w : World) (hn : l.length = n) (hl : 1 ≤ n) (hc : n ≤ cap) (hc2 : cap ≤ 9223372036854775807) (h : Lies w g o l) (ht : num (l.take 1) 0 = t) :
    Calls Try.prog 78 #[.slice (some ⟨g, o, none⟩) n cap] w fun e w' => ∃ o', e = .returned (.tuple #[.int .u8 t, .slice (some ⟨g, o', none⟩) (n - 1) (cap - 1)]) ∧ (1 < cap → o' = o + 1) ∧ ∃ n, w' = w.drewN n := by
  subst ht; exact take8n g o n cap l w hn hl hc hc2 h
theorem at_lt4 (m : List UInt8) (i : Nat) : at_ m i 4 < 4294967296 := at_lt m i
theorem below_drew {base : Nat} (w : World) (q : Nat) : Below base w (w.drewN q) := below_drewN (Below.refl _ _) q

set_option maxRecDepth 100000 in
set_option maxHeartbeats 1000000 in
theorem executed_any {w : World} {base r : Nat} {L : List Ord} (h : RbAt w base r L) (hb : base ≤ w.heap.size) (g o cap : Nat) (f : List UInt8) (hf : f.length = 10) (hc : 10 ≤ cap) (hc2 : cap ≤ 9223372036854775807) (hl : Lies w g o f) :
    Calls Try.prog 61 #[.pointer (some ⟨r, 0, none⟩), .slice (some ⟨g, o, none⟩) 10 cap] w (FolP (fExec L f) base r w) := by
  have ht := at_lt4 f 0
  have hm := at_lt2 f 4
  have HS : Hid (∀ t m, at_ f 0 4 = t → at_ f 4 2 = m → fExec L f = if m = 0 ∨ leftL L t < m then none else some (lessL t m L)) := by
    rintro t m rfl rfl
    rfl
  obtain ⟨t, hte⟩ : ∃ t, at_ f 0 4 = t := ⟨_, rfl⟩
  obtain ⟨m, hme⟩ : ∃ m, at_ f 4 2 = m := ⟨_, rfl⟩
  have HR : Hid (fExec L f = if m = 0 ∨ leftL L t < m then none else some (lessL t m L)) := HS.out t m hte hme
  have HT : Hid (num (f.take 4) 0 = t) := hte
  have HM : Hid (num ((f.drop 4).take 2) 0 = m) := hme
  rw [hte] at ht
  rw [hme] at hm
  generalize fExec L f = res at *
  have HH := Hid.mk (And.intro h hl)
  clear h hl HS hte hme
  go_enter Try.func61, Try.ntmps61
  go_wp2_with fail
  refine (take32v g o 10 cap t f w hf (by omega) hc hc2 HH.out.2 HT.out).mono ?_
  rintro e w1 ⟨o1, rfl, ho1, q1, rfl⟩
  obtain rfl := ho1 (by omega)
  clear ho1
  go_wp2_with fail
  refine (take16v g (o + 4) 6 (cap - 4) m (f.drop 4) (w.drewN q1) (by rw [List.length_drop, hf]) (by omega) (by omega) (by omega) (Lies.keep (HH.out.2.drop 4) rfl) HM.out).mono ?_
  rintro e w2 ⟨o2, rfl, ho2, q2, rfl⟩
  clear ho2
  have HRB : Hid (RbAt ((w.drewN q1).drewN q2) base r L) := (HH.out.1.drewN q1).drewN q2
  have HB : Hid (Below base w ((w.drewN q1).drewN q2)) := (below_drew w q1).trans (below_drew _ q2)
  generalize (w.drewN q1).drewN q2 = W at *
  have HLF := Hid.mk (left_at HRB.out t ht)
  obtain ⟨lf, hlf⟩ : ∃ lf, leftL L t = lf := ⟨_, rfl⟩
  rw [hlf] at HR HLF
  have HLE := Hid.mk hlf
  clear hlf
  by_cases hm0 : m = 0
  · have b0 : ((m : Int) == 0) = true := by simp [hm0]
    have HE : Hid (res = none) := by have := HR.out; rw [if_pos (Or.inl hm0)] at this; exact this
    clear hm0 HR
    go_wp2_with fail
    go_ret
    exact ⟨HB.out, Or.inl ⟨HE.out, rfl⟩⟩
  · have b0 : ((m : Int) == 0) = false := by rw [beq_eq_false_iff_ne]; omega
    by_cases hlt : lf < m
    · have b1 : (lf : Int) < (m : Int) := by omega
      have HE : Hid (res = none) := by have := HR.out; rw [if_pos (Or.inr hlt)] at this; exact this
      clear hm0 HR hlt
      go_wp2_with fail
      refine HLF.out.mono ?_
      rintro e w3 ⟨rfl, hw⟩
      subst hw
      go_wp2_with fail
      go_ret
      exact ⟨HB.out, Or.inl ⟨HE.out, rfl⟩⟩
    · have b1 : ¬ (lf : Int) < (m : Int) := by omega
      have HE : Hid (res = some (lessL t m L)) := by have := HR.out; rw [if_neg (by omega)] at this; exact this
      obtain ⟨od, hod1, hod2, -⟩ := left_pos (L := L) (t := t) (by rw [HLE.out]; omega)
      have HLS := Hid.mk (lessen_at HRB.out (Nat.le_trans hb HB.out.size) t m od ht hod1 (by have := HLE.out; omega))
      clear hm0 HR hlt hod1 hod2
      go_wp2_with fail
      refine HLF.out.mono ?_
      rintro e w3 ⟨rfl, hw⟩
      subst hw
      go_wp2_with fail
      refine HLS.out.mono ?_
      rintro e w4 ⟨rfl, hr4, hb4⟩
      have H4 := Hid.mk (And.intro hr4 hb4)
      clear hr4 hb4
      go_wp2_with fail
      go_ret
      exact ⟨HB.out.trans H4.out.2, Or.inr ⟨_, HE.out, rfl, H4.out.1⟩⟩

set_option maxRecDepth 100000 in
set_option maxHeartbeats 1000000 in
theorem lessened_any {w : World} {base r : Nat} {L : List Ord} (h : RbAt w base r L) (hb : base ≤ w.heap.size) (g o cap : Nat) (f : List UInt8) (hf : f.length = 6) (hc : 6 ≤ cap) (hc2 : cap ≤ 9223372036854775807) (hl : Lies w g o f) :
    Calls Try.prog 62 #[.pointer (some ⟨r, 0, none⟩), .slice (some ⟨g, o, none⟩) 6 cap] w (FolP (fLess L f) base r w) := by
  have ht := at_lt4 f 0
  have hm := at_lt2 f 4
  have HS : Hid (∀ t m, at_ f 0 4 = t → at_ f 4 2 = m → fLess L f = if m = 0 ∨ leftL L t ≤ m then none else some (lessL t m L)) := by
    rintro t m rfl rfl
    rfl
  obtain ⟨t, hte⟩ : ∃ t, at_ f 0 4 = t := ⟨_, rfl⟩
  obtain ⟨m, hme⟩ : ∃ m, at_ f 4 2 = m := ⟨_, rfl⟩
  have HR : Hid (fLess L f = if m = 0 ∨ leftL L t ≤ m then none else some (lessL t m L)) := HS.out t m hte hme
  have HT : Hid (num (f.take 4) 0 = t) := hte
  have HM : Hid (num ((f.drop 4).take 2) 0 = m) := hme
  rw [hte] at ht
  rw [hme] at hm
  generalize fLess L f = res at *
  have HH := Hid.mk (And.intro h hl)
  clear h hl HS hte hme
  go_enter Try.func62, Try.ntmps62
  go_wp2_with fail
  refine (take32v g o 6 cap t f w hf (by omega) hc hc2 HH.out.2 HT.out).mono ?_
  rintro e w1 ⟨o1, rfl, ho1, q1, rfl⟩
  obtain rfl := ho1 (by omega)
  clear ho1
  go_wp2_with fail
  refine (take16v g (o + 4) 2 (cap - 4) m (f.drop 4) (w.drewN q1) (by rw [List.length_drop, hf]) (by omega) (by omega) (by omega) (Lies.keep (HH.out.2.drop 4) rfl) HM.out).mono ?_
  rintro e w2 ⟨o2, rfl, ho2, q2, rfl⟩
  clear ho2
  have HRB : Hid (RbAt ((w.drewN q1).drewN q2) base r L) := (HH.out.1.drewN q1).drewN q2
  have HB : Hid (Below base w ((w.drewN q1).drewN q2)) := (below_drew w q1).trans (below_drew _ q2)
  generalize (w.drewN q1).drewN q2 = W at *
  have HLF := Hid.mk (left_at HRB.out t ht)
  obtain ⟨lf, hlf⟩ : ∃ lf, leftL L t = lf := ⟨_, rfl⟩
  rw [hlf] at HR HLF
  have HLE := Hid.mk hlf
  clear hlf
  by_cases hm0 : m = 0
  · have b0 : ((m : Int) == 0) = true := by simp [hm0]
    have HE : Hid (res = none) := by have := HR.out; rw [if_pos (Or.inl hm0)] at this; exact this
    clear hm0 HR
    go_wp2_with fail
    go_ret
    exact ⟨HB.out, Or.inl ⟨HE.out, rfl⟩⟩
  · have b0 : ((m : Int) == 0) = false := by rw [beq_eq_false_iff_ne]; omega
    by_cases hlt : lf ≤ m
    · have b1 : (lf : Int) ≤ (m : Int) := by omega
      have HE : Hid (res = none) := by have := HR.out; rw [if_pos (Or.inr hlt)] at this; exact this
      clear hm0 HR hlt
      go_wp2_with fail
      refine HLF.out.mono ?_
      rintro e w3 ⟨rfl, hw⟩
      subst hw
      go_wp2_with fail
      go_ret
      exact ⟨HB.out, Or.inl ⟨HE.out, rfl⟩⟩
    · have b1 : ¬ (lf : Int) ≤ (m : Int) := by omega
      have HE : Hid (res = some (lessL t m L)) := by have := HR.out; rw [if_neg (by omega)] at this; exact this
      obtain ⟨od, hod1, hod2, -⟩ := left_pos (L := L) (t := t) (by rw [HLE.out]; omega)
      have HLS := Hid.mk (lessen_at HRB.out (Nat.le_trans hb HB.out.size) t m od ht hod1 (by have := HLE.out; omega))
      clear hm0 HR hlt hod1 hod2
      go_wp2_with fail
      refine HLF.out.mono ?_
      rintro e w3 ⟨rfl, hw⟩
      subst hw
      go_wp2_with fail
      refine HLS.out.mono ?_
      rintro e w4 ⟨rfl, hr4, hb4⟩
      have H4 := Hid.mk (And.intro hr4 hb4)
      clear hr4 hb4
      go_wp2_with fail
      go_ret
      exact ⟨HB.out.trans H4.out.2, Or.inr ⟨_, HE.out, rfl, H4.out.1⟩⟩

set_option maxRecDepth 100000 in
set_option maxHeartbeats 1000000 in
theorem gone_any {w : World} {base r : Nat} {L : List Ord} (h : RbAt w base r L) (hb : base ≤ w.heap.size) (g o cap : Nat) (f : List UInt8) (hf : f.length = 4) (hc : 4 ≤ cap) (hc2 : cap ≤ 9223372036854775807) (hl : Lies w g o f) :
    Calls Try.prog 63 #[.pointer (some ⟨r, 0, none⟩), .slice (some ⟨g, o, none⟩) 4 cap] w (FolP (fGone L f) base r w) := by
  have ht := at_lt4 f 0
  have HS : Hid (∀ t, at_ f 0 4 = t → fGone L f = if leftL L t = 0 then none else some (lessL t (leftL L t) L)) := by
    rintro t rfl
    rfl
  obtain ⟨t, hte⟩ : ∃ t, at_ f 0 4 = t := ⟨_, rfl⟩
  have HR : Hid (fGone L f = if leftL L t = 0 then none else some (lessL t (leftL L t) L)) := HS.out t hte
  have HT : Hid (num (f.take 4) 0 = t) := hte
  rw [hte] at ht
  generalize fGone L f = res at *
  have HH := Hid.mk (And.intro h hl)
  clear h hl HS hte
  go_enter Try.func63, Try.ntmps63
  go_wp2_with fail
  refine (take32v g o 4 cap t f w hf (by omega) hc hc2 HH.out.2 HT.out).mono ?_
  rintro e w1 ⟨o1, rfl, ho1, q1, rfl⟩
  clear ho1
  have HRB : Hid (RbAt (w.drewN q1) base r L) := HH.out.1.drewN q1
  have HB : Hid (Below base w (w.drewN q1)) := below_drew w q1
  generalize w.drewN q1 = W at *
  have HLF := Hid.mk (left_at HRB.out t ht)
  obtain ⟨lf, hlf⟩ : ∃ lf, leftL L t = lf := ⟨_, rfl⟩
  rw [hlf] at HR HLF
  have HLE := Hid.mk hlf
  clear hlf
  go_wp2_with fail
  refine HLF.out.mono ?_
  rintro e w3 ⟨rfl, hw⟩
  subst hw
  by_cases hm0 : lf = 0
  · have b0 : ((lf : Int) == 0) = true := by simp [hm0]
    have HE : Hid (res = none) := by have := HR.out; rw [if_pos hm0] at this; exact this
    clear hm0 HR
    go_wp2_with fail
    go_ret
    exact ⟨HB.out, Or.inl ⟨HE.out, rfl⟩⟩
  · have b0 : ((lf : Int) == 0) = false := by rw [beq_eq_false_iff_ne]; omega
    have HE : Hid (res = some (lessL t lf L)) := by have := HR.out; rw [if_neg (by omega)] at this; exact this
    obtain ⟨od, hod1, hod2, -⟩ := left_pos (L := L) (t := t) (by rw [HLE.out]; omega)
    have HLS := Hid.mk (lessen_at HRB.out (Nat.le_trans hb HB.out.size) t lf od ht hod1 (by have := HLE.out; omega))
    clear hm0 HR hod1 hod2
    go_wp2_with fail
    refine HLS.out.mono ?_
    rintro e w4 ⟨rfl, hr4, hb4⟩
    have H4 := Hid.mk (And.intro hr4 hb4)
    clear hr4 hb4
    go_wp2_with fail
    go_ret
    exact ⟨HB.out.trans H4.out.2, Or.inr ⟨_, HE.out, rfl, H4.out.1⟩⟩

theorem lies_one {w : World} {g o : Nat} {l : List UInt8} (h : Lies w g o l) (hg : g < w.heap.size) (A : Obj) (n : Nat) : Lies ((w.alloc A).drewN n) g o l :=
  h.keep (by show (w.alloc A).heap[g]? = _; rw [heap_alloc, if_neg (by omega)])

set_option maxRecDepth 100000 in
set_option maxHeartbeats 2000000 in
theorem rests_tape {w : World} {base r : Nat} {L : List Ord} (h : RbAt w base r L) (hb : base ≤ w.heap.size) (hL : L.length < 4398046511104) (g o cap : Nat) (f : List UInt8) (hf : f.length = 10) (hc : 10 ≤ cap) (hc2 : cap ≤ 9223372036854775807) (hl : Lies w g o f) (hg : g < w.heap.size) :
    Calls Try.prog 60 #[.pointer (some ⟨r, 0, none⟩), .slice (some ⟨g, o, none⟩) 10 cap] w (FolP (fRests L f) base r w) := by
  have HH := Hid.mk (And.intro h hl)
  obtain ⟨y, hy⟩ : ∃ y, fOrd f = y := ⟨_, rfl⟩
  have HE1 : Hid (num (f.take 4) 0 = y.ref) := by rw [← hy]; rfl
  have HE2 : Hid (num ((f.drop 4).take 1) 0 = y.side.toNat) := by rw [← hy]; exact num_one f 4 (by omega)
  have HE3 : Hid (num ((f.drop 5).take 1) 0 = y.stock) := by rw [← hy]; exact num_one f 5 (by omega)
  have HE4 : Hid (num ((f.drop 8).take 2) 0 = y.price) := by rw [← hy]; rfl
  have HE5 : Hid (num ((f.drop 6).take 2) 0 = y.shares) := by rw [← hy]; rfl
  have HTK : Hid (y.token = 0) := by rw [← hy]; rfl
  have HSM : Hid y.small := by
    rw [← hy]
    exact ⟨at_lt4 f 0, by show 0 < 4294967296; omega, (byteAt f 5).toNat_lt, at_lt2 f 8, at_lt2 f 6⟩
  have HR : Hid (fRests L f = if leftL L y.ref ≠ 0 ∨ ¬ (y.side = 66 ∨ y.side = 83) ∨ y.shares = 0 then none else some (L ++ [y])) := by
    rw [← hy]
    rfl
  generalize fRests L f = res at *
  clear h hl hy
  go_enter Try.func60, Try.ntmps60
  go_wp2_with fail
  refine (take32n g o 10 cap f _ hf (by decide) hc hc2 (lies_one HH.out.2 hg _ 0)).mono ?_
  rintro e w1 ⟨o1, rfl, ho1, q1, rfl⟩
  obtain rfl := ho1 (by omega)
  clear ho1
  go_wp2_with fail
  refine (take8n g (o + 4) 6 (cap - 4) (f.drop 4) _ (by rw [List.length_drop, hf]) (by decide) (by omega) (by omega) (lies_one (HH.out.2.drop 4) hg _ _)).mono ?_
  rintro e w2 ⟨o2, rfl, ho2, q2, rfl⟩
  obtain rfl := ho2 (by omega)
  clear ho2
  go_wp2_with fail
  refine (take8n g (o + 5) 5 (cap - 5) (f.drop 5) _ (by rw [List.length_drop, hf]) (by decide) (by omega) (by omega) (lies_one (HH.out.2.drop 5) hg _ _)).mono ?_
  rintro e w3 ⟨o3, rfl, ho3, q3, rfl⟩
  obtain rfl := ho3 (by omega)
  clear ho3
  go_wp2_with fail
  refine (take16n g (o + 6) 4 (cap - 6) (f.drop 6) _ (by rw [List.length_drop, hf]) (by decide) (by omega) (by omega) (lies_one (HH.out.2.drop 6) hg _ _)).mono ?_
  rintro e w4 ⟨o4, rfl, ho4, q4, rfl⟩
  obtain rfl := ho4 (by omega)
  clear ho4
  go_wp2_with fail
  refine (take16n g (o + 8) 2 (cap - 8) (f.drop 8) _ (by rw [List.length_drop, hf]) (by decide) (by omega) (by omega) (lies_one (HH.out.2.drop 8) hg _ _)).mono ?_
  rintro e w5 ⟨o5, rfl, ho5, q5, rfl⟩
  clear ho5
  go_wp2_with fail
  rw [HE1.out, HE2.out, HE3.out, HE4.out, HE5.out]
  generalize q1 + q2 + q3 + q4 + q5 = q
  have HRB : Hid (∀ O : Obj, RbAt ((w.alloc O).drewN q) base r L) := fun O => (HH.out.1.alloc O).drewN q
  have HB : Hid (∀ O : Obj, Below base w ((w.alloc O).drewN q)) := fun O => below_drewN ((Below.refl base w).alloc hb O) q
  have HLF : Hid (∀ O : Obj, Calls Try.prog 92 #[.pointer (some ⟨r, 0, none⟩), .int .u32 y.ref] ((w.alloc O).drewN q) fun e w' => e = .returned (.int .u16 (leftL L y.ref)) ∧ w' = ((w.alloc O).drewN q)) := fun O => left_at (HRB.out O) y.ref HSM.out.ref
  obtain ⟨lf, hlf⟩ : ∃ lf, leftL L y.ref = lf := ⟨_, rfl⟩
  rw [hlf] at HLF HR
  have HLE := Hid.mk hlf
  clear hlf HE1 HE2 HE3 HE4 HE5
  refine (HLF.out _).mono ?_
  rintro e w6 ⟨rfl, hw⟩
  subst hw
  by_cases hl0 : lf = 0
  · have b0 : ¬ (0 : Int) < (lf : Int) := by omega
    have HE : Hid (res = if ¬ (y.side = 66 ∨ y.side = 83) ∨ y.shares = 0 then none else some (L ++ [y])) := by
      have := HR.out
      simp only [hl0, ne_eq, not_true_eq_false, false_or] at this
      exact this
    have HL0 := Hid.mk hl0
    clear hl0 HR
    go_wp2_with fail
    by_cases hsd : y.side = 66 ∨ y.side = 83
    · refine (sideMayBe_lit (y.side.toNat : Int) _ (by rcases hsd with h | h <;> rw [h] <;> simp)).mono ?_
      rintro e w7 ⟨rfl, hw⟩
      subst hw
      by_cases hsh : y.shares = 0
      · have b1 : ((y.shares : Int) == 0) = true := by simp [hsh]
        have HE' : Hid (res = none) := by have := HE.out; rw [if_pos (Or.inr hsh)] at this; exact this
        clear hsh hsd HE
        go_wp2_with fail
        go_ret
        exact ⟨HB.out _, Or.inl ⟨HE'.out, rfl⟩⟩
      · have b1 : ((y.shares : Int) == 0) = false := by rw [beq_eq_false_iff_ne]; omega
        have HE' : Hid (res = some (L ++ [y])) := by have := HE.out; rw [if_neg (by intro hh; rcases hh with hh | hh; exact hh hsd; exact hsh hh)] at this; exact this
        have HAD : Hid (∀ O : Obj, Calls Try.prog 94 #[.pointer (some ⟨r, 0, none⟩), .agg #[.int .i64 0, .int .i64 0, .int .u32 y.ref, .int .u32 0, .int .u8 y.side.toNat, .int .u8 y.stock, .int .u16 y.price, .int .u16 y.shares]] ((w.alloc O).drewN q) fun e w' => e = .returned (.tuple #[]) ∧ RbAt w' base r (L ++ [y]) ∧ Below base ((w.alloc O).drewN q) w') := fun O => by
          have := add_at (HRB.out O) (Nat.le_trans hb (HB.out O).size) y HSM.out hsh (by rw [HLE.out]; exact HL0.out) hL
          unfold ordV ordL at this
          rw [HTK.out] at this
          exact this
        clear hsh hsd HE
        go_wp2_with fail
        refine (HAD.out _).mono ?_
        rintro e w8 ⟨rfl, hr8, hb8⟩
        have H8 := Hid.mk (And.intro hr8 hb8)
        clear hr8 hb8
        go_wp2_with fail
        go_ret
        exact ⟨(HB.out _).trans H8.out.2, Or.inr ⟨_, HE'.out, rfl, H8.out.1⟩⟩
    · have HE' : Hid (res = none) := by have := HE.out; rw [if_pos (Or.inl hsd)] at this; exact this
      refine (sideMayBe_no y.side ⟨fun h => hsd (Or.inl h), fun h => hsd (Or.inr h)⟩ _).mono ?_
      rintro e w7 ⟨rfl, hw⟩
      subst hw
      clear hsd HE
      go_wp2_with fail
      go_ret
      exact ⟨HB.out _, Or.inl ⟨HE'.out, rfl⟩⟩
  · have b0 : (0 : Int) < (lf : Int) := by omega
    have HE : Hid (res = none) := by have := HR.out; rw [if_pos (Or.inl hl0)] at this; exact this
    clear hl0 HR
    go_wp2_with fail
    go_ret
    exact ⟨HB.out _, Or.inl ⟨HE.out, rfl⟩⟩

end Go.Proofs.Ytphkchjejbffeaa
