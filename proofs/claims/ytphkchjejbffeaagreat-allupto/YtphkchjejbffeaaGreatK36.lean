/- B2, B3, B4 -/
import Derived.Test.YtphkchjejbffeaaGreatK35
set_option maxHeartbeats 16000000
set_option maxRecDepth 100000
namespace Go.Proofs.YtphkchjejbffeaaGreat
open Tryz
open Go.RowKit
variable {L:List Ord}{base n pm r t:Nat}{M:Nat→Option Nat}{o:Ord}{v:Value}{w:World}
section
open Go.RowKit
attribute [local go_sem ↓] Go.wp_at_zero Go.wp_at_succ
theorem left_any (h:RbC w base r L v pm n M)(hx:Ix L M)(t:Nat)(ht:t<4294967296):
  Calls prog 73 #[.pointer (some ⟨r,0,none⟩),.int .u32 t] w λe w'=>e=.returned (.int .u16 (Xz L t))∧w'=w:=by
 obtain⟨g0,g1,-,-⟩:=h.cells;have hlk0:=h.map.lookOk t ht;obtain⟨ra,cap,rfl,hc1,hc2,hcs⟩:=h.row.form;cases hM:M t with
 | none=>
  have HL:Hid (Xz L t=0):=by have:=hx.left t;rw[hM] at this;exact this
  rw[hM] at hlk0;have hlk:(Instr.lookup 62 (.map (some pm)) (.int .u32 t) true).run prog w=.ok (.tuple #[.int .i64 0,.bool false]) w:=hlk0;clear hlk0 h hx hcs hM;go_enter func73,ntmps73;go_wp2_with fail;go_ret;exact⟨by rw[HL.o];rfl,rfl⟩
 | some p=>
  obtain⟨o,ho,hr,hlv⟩:=hx.found hM;obtain⟨g,rfl,-,-,-,hrg⟩:=hcs p o ho;have HL:Hid (Xz L t=o.qa):=VD hlv;have c7:w.cell? ⟨g,p*8+7,none⟩=some (.int .u16 o.qa):=hrg 7 _ rfl;have hp:=(Zl.1 ho).1;have i1:(p:Int)<(L.length:Int):=by omega
  have i2:(0:Int)≤(p:Int):=by omega
  rw[hM] at hlk0;have hlk:(Instr.lookup 62 (.map (some pm)) (.int .u32 t) true).run prog w=.ok (.tuple #[.int .i64 (p:Int),.bool true]) w:=hlk0;clear hlk0 h hx hcs hM hlv hr ho hrg;go_enter func73,ntmps73;go_wp2_with fail;go_ret;exact⟨by rw[HL.o];rfl,rfl⟩
theorem Zhf (h:RbC w base r L v pm n M)(hb:base≤w.heap.size)(t p m d:Nat)(o:Ord)(ht:t<4294967296)(hM:M t=some p)(ho:L[p]?=some o)(hm:o.qa=m+d)(hd:d≠0)(hs:o.qa<65536):
  Calls prog 76 #[.pointer (some ⟨r,0,none⟩),.int .u32 t,.int .u16 m] w λe w'=>e=.returned (.tuple #[])∧RbC w' base r (L.set p {o with qa:=d}) v pm n M∧Below base w w':=by
 obtain⟨g,cap,rfl,hc1,hc2,hl⟩:=h.less hM ho;obtain⟨g0,g1,-,-⟩:=h.cells;have hlk0:=h.map.look t ht;rw[hM] at hlk0;obtain⟨ra',cap',hv',-,-,hcs⟩:=h.row.form;obtain⟨g',hg',hbg,-,hfz,hrg⟩:=hcs p o ho;simp only[ZX] at hv';obtain⟨hv1,-,-⟩:=hv';rw[hg'] at hv1;simp only[Ys,YB,and_true] at hv1;subst hv1;have c7:w.cell? ⟨g,p*8+7,none⟩=some (.int .u16 o.qa):=hrg 7 _ rfl;have f7:=hfz (p*8+7);have hp:=(Zl.1 ho).1;have i1:(p:Int)<(L.length:Int):=by omega
 have i2:(0:Int)≤(p:Int):=by omega
 have hlk:(Instr.lookup 62 (.map (some pm)) (.int .u32 t) false).run prog w.drew=.ok (.int .i64 (p:Int)) w.drew:=by have:=(h.map.keep (w':=w.drew) rfl).look t ht;rw[hM] at this;exact this
 have m0:w.drew.cell? ⟨r,0,none⟩=some (.slice (some ⟨g,0,none⟩) L.length cap)∧w.drew.cell? ⟨r,1,none⟩=some (.map (some pm))∧(Instr.lookup 62 (.map (some pm)) (.int .u32 t) false).run prog w.drew=.ok (.int .i64 (p:Int)) w.drew:=⟨g0,g1,hlk⟩;have HFin:Hid (∀W:World,W=(w.drew.setCell ⟨g,p*8+7,none⟩ (.int .u16 d))→RbC W base r (L.set p {o with qa:=d}) (.slice (some ⟨g,0,none⟩) L.length cap) pm n M∧Below base w W):=by rintro W rfl;have hf:Fr (λk=>k=g) w (w.drew.setCell ⟨g,p*8+7,none⟩ (.int .u16 d)):=(Fr.drew (λk=>k=g) w).trans (Fr.setCell w.drew ⟨g,p*8+7,none⟩ _) (λ_ _ e=>e);refine⟨h.turnR (g:=g) rfl hf ?_,hf.belowB hb hbg⟩;exact OsAt.put (w:=w.drew) (h.row.keep (λ_ _=>rfl)) p 7 o {o with qa:=d} _ ho (by omega) rfl
 have b0:((d:Int)==0)=false:=by rw[Zz];omega
 obtain⟨y,hy⟩:∃y:Int,y=(o.qa:Int):=⟨_,rfl⟩;rw[←hy] at c7;have hym:y-(m:Int)=(d:Int):=by omega
 have w1:IntKind.u16.wrap (d:Int)=(d:Int):=by rw[IntKind.wrap_u16];omega
 clear h hl hlk0 hcs hrg hfz hlk hM ho hy hm hg';go_enter func76,ntmps76;go_wp2_with fail;go_region_held3 (λw'=>w'.cell? ⟨r,0,none⟩=some (.slice (some ⟨g,0,none⟩) L.length cap)∧w'.cell? ⟨r,1,none⟩=some (.map (some pm))∧(Instr.lookup 62 (.map (some pm)) (.int .u32 t) false).run prog w'=.ok (.int .i64 (p:Int)) w') (first|with_reducible exact m0|go_keep) (fail)
 rename_i hHeld;clear hHeld m0;go_wp2_with fail;go_end0
 exact⟨rfl,HFin.o _ rfl⟩
theorem Qp (h:RbC w base r L v pm n M)(hb:base≤w.heap.size)(t p m:Nat)(o:Ord)(ht:t<4294967296)(hM:M t=some p)(ho:L[p]?=some o)(hm:o.qa=m)(_hs:o.qa<65536):
  Calls prog 76 #[.pointer (some ⟨r,0,none⟩),.int .u32 t,.int .u16 m] w λe w'=>e=.returned (.tuple #[])∧∃n',n'+1=n∧RbC w' base r (L.set p {o with qa:=0}) v pm n' (updM M t none)∧Below base w w'∧Fr (λk=>v.ownBlock=some k∨k=pm) w w':=by
 obtain⟨g,cap,rfl,hc1,hc2,hl⟩:=h.less hM ho;obtain⟨g0,g1,-,-⟩:=h.cells;have hlk0:=h.map.look t ht;rw[hM] at hlk0;obtain⟨ra',cap',hv',-,-,hcs⟩:=h.row.form;obtain⟨g',hg',hbg,-,hfz,hrg⟩:=hcs p o ho;simp only[ZX] at hv';obtain⟨hv1,-,-⟩:=hv';rw[hg'] at hv1;simp only[Ys,YB,and_true] at hv1;subst hv1;have c7:w.cell? ⟨g,p*8+7,none⟩=some (.int .u16 o.qa):=hrg 7 _ rfl;have f7:=hfz (p*8+7);have hp:=(Zl.1 ho).1;have i1:(p:Int)<(L.length:Int):=by omega
 have i2:(0:Int)≤(p:Int):=by omega
 have hlk:(Instr.lookup 62 (.map (some pm)) (.int .u32 t) false).run prog w.drew=.ok (.int .i64 (p:Int)) w.drew:=by have:=(h.map.keep (w':=w.drew) rfl).look t ht;rw[hM] at this;exact this
 have m0:w.drew.cell? ⟨r,0,none⟩=some (.slice (some ⟨g,0,none⟩) L.length cap)∧w.drew.cell? ⟨r,1,none⟩=some (.map (some pm))∧(Instr.lookup 62 (.map (some pm)) (.int .u32 t) false).run prog w.drew=.ok (.int .i64 (p:Int)) w.drew:=⟨g0,g1,hlk⟩;have hgr:¬r=g:=λe=>h.nr (by rw[e];rfl);have hgp:¬pm=g:=λe=>h.np (by rw[e];rfl);have hf:Fr (λk=>k=g) w (w.drew.setCell ⟨g,p*8+7,none⟩ (.int .u16 0)):=(Fr.drew (λk=>k=g) w).trans (Fr.setCell w.drew ⟨g,p*8+7,none⟩ _) (λ_ _ e=>e);have hr1:RbC (w.drew.setCell ⟨g,p*8+7,none⟩ (.int .u16 0)) base r (L.set p {o with qa:=0}) (.slice (some ⟨g,0,none⟩) L.length cap) pm n M:=
  h.turnR (g:=g) rfl hf (OsAt.put (w:=w.drew) (h.row.keep (λ_ _=>rfl)) p 7 o {o with qa:=0} _ ho (by omega) rfl)
 have HB1:Hid (Below base w (w.drew.setCell ⟨g,p*8+7,none⟩ (.int .u16 0))):=hf.belowB hb hbg;have HF1:=Zc hf;have HR1:=Zc hr1;have HMS:Hid ((M t).isSome=true):=by show _=true;rw[hM];rfl
 obtain⟨y,hy⟩:∃y:Int,y=(o.qa:Int):=⟨_,rfl⟩;rw[←hy] at c7;have hym:y-(m:Int)=0:=by omega
 obtain⟨w3,n3,hrun,hM3,hn3,hf3⟩:=hr1.map.drop t ht 0;have hrun2:(Builtin.delete_ #[62,98] 0 #[.map (some pm),.int .u32 t]).run prog (w.setCell ⟨g,p*8+7,none⟩ (.int .u16 0)).drew=.ok (.tuple #[]) w3:=hrun;replace hM3:=Zc hM3;replace hn3:=Zc hn3;replace hf3:=Zc hf3;clear hrun;clear h hl hlk0 hcs hrg hfz hlk hM ho hy hm hg' hf hr1;go_enter func76,ntmps76;go_wp2_with fail;go_region_held3 (λw'=>w'.cell? ⟨r,0,none⟩=some (.slice (some ⟨g,0,none⟩) L.length cap)∧w'.cell? ⟨r,1,none⟩=some (.map (some pm))∧(Instr.lookup 62 (.map (some pm)) (.int .u32 t) false).run prog w'=.ok (.int .i64 (p:Int)) w') (first|with_reducible exact m0|go_keep) (fail)
 rename_i hHeld;clear hHeld m0;go_wp2_with fail;go_end0
 refine⟨rfl,n3,?_,HR1.o.turnM hf3.out hM3.out,HB1.o.trans (hf3.out.belowB (Zw hb HB1.o.size) HR1.o.bp),(HF1.o.mono (G:=λk=>Value.ownBlock (.slice (some ⟨g,0,none⟩) L.length cap)=some k∨k=pm) (λk _ e=>Or.inl (by rw[e];rfl))).trans (hf3.out.mono (G:=λk=>Value.ownBlock (.slice (some ⟨g,0,none⟩) L.length cap)=some k∨k=pm) (λ_ _ e=>Or.inr e)) (λ_ _ e=>e)⟩;have:=hn3.out;rw[HMS.o] at this;simpa using this
theorem Ze1 {W:World}{g:Nat}{y:Ord}(h:W.heap[g]?=some (.cells (ordL 0 0 y).toArray 108)):Box W g 0 0 y:=Box.of h
theorem Zjq (h:RbC w base r L v pm n M)(hb:base≤w.heap.size)(p:Nat)(o y:Ord)(ho:L[p]?=some o)(hy:y.ref<4294967296)(hn:n<maxLen):
  Calls prog 78 #[.pointer (some ⟨r,0,none⟩),.int .i64 p,ordV 0 0 y] w λe w'=>e=.returned (.tuple #[])∧RbC w' base r (L.set p y) v pm (if (M y.ref).isSome then n else n+1) (updM M y.ref (some p))∧Below base w w':=by
 obtain⟨ra,cap,rfl,hc1,hc2,hcs⟩:=h.row.form;obtain⟨g,rfl,hbg,hgl,hfz,hrg⟩:=hcs p o ho;have hp:=(Zl.1 ho).1;have i1:(p:Int)<(L.length:Int):=by omega
 have i2:(0:Int)≤(p:Int):=by omega
 obtain⟨-,-,-,hrl⟩:=h.cells;have hpl:=h.map.lt;have hgr:¬r=g:=λe=>h.nr (by rw[e];rfl);have hgp:¬pm=g:=λe=>h.np (by rw[e];rfl);have hrp:¬r=pm:=h.ne;have HH:=Zc (Zd h ho);clear h hcs hfz hrg ho;unfold ordV ordL;go_enter func78,ntmps78;go_wp2_with fail;generalize hOb:Obj.cells _ 108=Ob;have hbx:Box (w.alloc Ob) w.heap.size 0 0 y:=Ze1 (by rw[YX,Zg rfl,←hOb];rfl);have h1:=HH.o.1.alloc Ob;have hF0:Below base w (w.alloc Ob):=(Zm base w).alloc hb Ob;have hsz:(w.alloc Ob).heap.size=w.heap.size+1:=Xb _ _;clear hOb;generalize w.alloc Ob=W at hbx h1 hF0 hsz ⊢;obtain⟨q0,q1,q2,q3,q4,q5,q6,q7⟩:=hbx;obtain⟨g0,g1,-,-⟩:=h1.cells;obtain⟨ra',cap',hv',-,-,hcs⟩:=h1.row.form;obtain⟨g',hg',-,-,hfz,hrg⟩:=hcs p o HH.o.2;simp only[ZX] at hv';obtain⟨hv1,-,-⟩:=hv';rw[hg'] at hv1;simp only[Ys,YB,and_true] at hv1;subst hv1;have t0:W.cell? ⟨g,p*8,none⟩=some _:=hrg 0 _ rfl;have t1:=hrg 1 _ rfl;have t2:=hrg 2 _ rfl;have t3:=hrg 3 _ rfl;have t4:=hrg 4 _ rfl;have t5:=hrg 5 _ rfl;have t6:=hrg 6 _ rfl;have t7:=hrg 7 _ rfl;have fp0:=hfz (p*8);have fp1:=hfz (p*8+1);have fp2:=hfz (p*8+2);have fp3:=hfz (p*8+3);have fp4:=hfz (p*8+4);have fp5:=hfz (p*8+5);have fp6:=hfz (p*8+6);have fp7:=hfz (p*8+7);have hxr:¬w.heap.size=r:=by omega
 have hxg:¬w.heap.size=g:=by omega
 have hxp:¬w.heap.size=pm:=by omega
 have hxr':¬r=w.heap.size:=by omega
 have hxg':¬g=w.heap.size:=by omega
 have hgr':¬g=r:=λe=>hgr e.symm;have H1:=Zc (Zd h1 hF0);clear h1 hF0 hcs hfz hrg hg';go_region_held3 (λw'=>w'.cell? ⟨r,0,none⟩=some (.slice (some ⟨g,0,none⟩) L.length cap)∧w'.cell? ⟨w.heap.size,0,none⟩=some (.int .i64 0)∧w'.cell? ⟨w.heap.size,1,none⟩=some (.int .i64 0)∧w'.cell? ⟨w.heap.size,2,none⟩=some (.int .u32 y.ref)∧w'.cell? ⟨w.heap.size,3,none⟩=some (.int .u32 y.qf)∧w'.cell? ⟨w.heap.size,4,none⟩=some (.int .u8 y.qe.toNat)∧w'.cell? ⟨w.heap.size,5,none⟩=some (.int .u8 y.qd)∧w'.cell? ⟨w.heap.size,6,none⟩=some (.int .u16 y.qc)∧w'.cell? ⟨w.heap.size,7,none⟩=some (.int .u16 y.qa)) (go_keep) (fail)
 rename_i hHeld;clear hHeld;have hf2:Hid (Fr (λj=>j=g) W (((((((((W.setCell ⟨g,p*8,none⟩ (.int .i64 0)).setCell ⟨g,p*8+1,none⟩ (.int .i64 0)).setCell ⟨g,p*8+2,none⟩ (.int .u32 y.ref)).setCell ⟨g,p*8+3,none⟩ (.int .u32 y.qf)).setCell ⟨g,p*8+4,none⟩ (.int .u8 y.qe.toNat)).setCell ⟨g,p*8+5,none⟩ (.int .u8 y.qd)).setCell ⟨g,p*8+6,none⟩ (.int .u16 y.qc)).setCell ⟨g,p*8+7,none⟩ (.int .u16 y.qa)))):=by have:=XA g (ordL 0 0 y) (p*8) W;rw[set8] at this;exact this
 have hp2:Hid (RbC (((((((((W.setCell ⟨g,p*8,none⟩ (.int .i64 0)).setCell ⟨g,p*8+1,none⟩ (.int .i64 0)).setCell ⟨g,p*8+2,none⟩ (.int .u32 y.ref)).setCell ⟨g,p*8+3,none⟩ (.int .u32 y.qf)).setCell ⟨g,p*8+4,none⟩ (.int .u8 y.qe.toNat)).setCell ⟨g,p*8+5,none⟩ (.int .u8 y.qd)).setCell ⟨g,p*8+6,none⟩ (.int .u16 y.qc)).setCell ⟨g,p*8+7,none⟩ (.int .u16 y.qa))) base r (L.set p y) (.slice (some ⟨g,0,none⟩) L.length cap) pm n M):=by have:=OsAt.putAll (w:=W) H1.o.1.row p o y HH.o.2;rw[set8] at this;exact H1.o.1.turnR (g:=g) rfl hf2.out this
 generalize ((((((((W.setCell ⟨g,p*8,none⟩ (.int .i64 0)).setCell ⟨g,p*8+1,none⟩ (.int .i64 0)).setCell ⟨g,p*8+2,none⟩ (.int .u32 y.ref)).setCell ⟨g,p*8+3,none⟩ (.int .u32 y.qf)).setCell ⟨g,p*8+4,none⟩ (.int .u8 y.qe.toNat)).setCell ⟨g,p*8+5,none⟩ (.int .u8 y.qd)).setCell ⟨g,p*8+6,none⟩ (.int .u16 y.qc)).setCell ⟨g,p*8+7,none⟩ (.int .u16 y.qa))=w2 at hp2 hf2 ⊢;have HD:Hid (RbC w2.drew base r (L.set p y) (.slice (some ⟨g,0,none⟩) L.length cap) pm n M):=hp2.out.drewN 1;have hfd:Hid (Fr (λj=>j=g) W w2.drew):=hf2.out.trans (Fr.drew (λj=>j=g) w2) (λ_ _ e=>e);generalize w2.drew=V at HD hfd ⊢;clear hp2 hf2;replace q2:=hfd.out.cell q2 hxg;have g1':=HD.o.cells.2.1;obtain⟨w3,hrun,hM3,hf3⟩:=(HD.o.map.keep (w':=V.drew) rfl).storeG y.ref p hy (by unfold maxLen at hc2;omega) hn;have m2:w3.cell? ⟨r,1,none⟩=some (.map (some pm))∧w3.cell? ⟨w.heap.size,2,none⟩=some (.int .u32 y.ref):=⟨hf3.cell (w:=V.drew) g1' hrp,hf3.cell (w:=V.drew) q2 hxp⟩;replace hM3:=Zc hM3;replace hf3:=Zc hf3;clear q0 q1 q3 q4 q5 q6 q7 t0 t1 t2 t3 t4 t5 t6 t7 fp0 fp1 fp2 fp3 fp4 fp5 fp6 fp7 g0 g1;go_wp2_with fail;go_region_held3 (λw'=>w'.cell? ⟨r,1,none⟩=some (.map (some pm))∧w'.cell? ⟨w.heap.size,2,none⟩=some (.int .u32 y.ref)) (first|exact m2|go_keep) (fail)
 go_end0
 have hbW:base≤W.heap.size:=Zw hb H1.o.2.size;have hB2:Below base w V:=H1.o.2.trans (hfd.out.belowB hbW hbg);have hB3:Below base V w3:=(Zm base V).drew.trans (hf3.out.belowB (Zw hb hB2.size) HH.o.1.bp);exact⟨rfl,(HD.o.drewN 1).turnM hf3.out hM3.out,hB2.trans hB3⟩
attribute [local go_sem ↓] app_op
theorem Zkz (W:World)(y:Ord):∀j u,(ordL 0 0 y)[j]?=some u→(W.alloc (.cells (ordL 0 0 y).toArray 108)).cell? ((⟨W.heap.size,0,none⟩:Addr).add j)=some u:=by intro j u hu;rw[Yg,ZN,Zk _ W.heap.size j _ 108 (0,0) (by rw[YX,Zg rfl])];simpa using hu
theorem Zfl (h:RbC w base r L v pm n M)(hb:base≤w.heap.size)(y:Ord)(hy:y.ref<4294967296)(hn:n<maxLen)(hL:L.length<4398046511104):
  Calls prog 75 #[.pointer (some ⟨r,0,none⟩),ordV 0 0 y] w λe w'=>e=.returned (.tuple #[])∧∃v',RbC w' base r (L++[y]) v' pm (if (M y.ref).isSome then n else n+1) (updM M y.ref (some L.length))∧Below base w w':=by
 obtain⟨ra,cap,rfl,hc1,hc2,-⟩:=h.row.form;obtain⟨-,-,-,hrl⟩:=h.cells;have hpl:=h.map.lt;have hrp:¬r=pm:=h.ne;have HH:=Zc h;clear h;obtain⟨i0,hi,hz0,hz1,hz2⟩:=info_parts infoOrd;have HI:=Zc (Zd hi (Zd hz0 (Zd hz1 hz2)));clear hi hz0 hz1 hz2;unfold ordV ordL;go_enter func75,ntmps75;go_wp2_with fail;generalize hOb:Obj.cells _ 108=Ob;have hbx:Box (w.alloc Ob) w.heap.size 0 0 y:=Ze1 (by rw[YX,Zg rfl,←hOb];rfl);have h1:=HH.o.alloc Ob;have hF0:Below base w (w.alloc Ob):=(Zm base w).alloc hb Ob;have hsz:(w.alloc Ob).heap.size=w.heap.size+1:=Xb _ _;clear hOb;generalize w.alloc Ob=W at hbx h1 hF0 hsz ⊢;have HBX:=Zc hbx;obtain⟨q0,q1,q2,q3,q4,q5,q6,q7⟩:=hbx;obtain⟨g0,-,-,-⟩:=h1.cells;have hxr:¬w.heap.size=r:=by omega
 have hxp:¬w.heap.size=pm:=by omega
 have hxr':¬r=w.heap.size:=by omega
 have hbW:base≤W.heap.size:=Zw hb hF0.size;obtain⟨O,hO⟩:∃O:Obj,O=.cells #[.int .i64 0,.int .i64 0,.int .u32 y.ref,.int .u32 y.qf,.int .u8 y.qe.toNat,.int .u8 y.qd,.int .u16 y.qc,.int .u16 y.qa] 108:=⟨_,rfl⟩;have gA:(W.alloc O).cell? ⟨r,0,none⟩=some (.slice ra L.length cap):=by rw[World.cell?_alloc_some _ _ _ (by rw[g0];rfl)];exact g0
 have hOA:(W.drew.alloc O).ownsRow base 108 8 (.slice ra L.length cap) L.length (L.flatMap (ordL 0 0)):=YY h1.row (λg hg=>by show(W.alloc O).heap[g]?=_;rw[YX,Zj (by have:=(Zs h1.row g hg).2;omega)])
 obtain⟨v3,w3,hrun,hown3,hg3,-,-⟩:=run_append_own_at (P:=prog) (W.drew.alloc O) base 63 63 108 i0 _ 8 32 QD HI.o.1 HI.o.2.1 HI.o.2.2.1 HI.o.2.2.2 rfl (by decide) _ L.length _ hOA ⟨W.heap.size,0,none⟩ 1 1 (ordL 0 0 y) rfl (by rw[hO];exact Zkz W.drew y) (Zbr 0 0 y) (by unfold maxLen;omega) (by omega) (by show _≤(W.alloc _).heap.size;rw[Xb];omega);have hf3:Fr (λk=>some k=Value.ownBlock (.slice ra L.length cap)) W w3:=
  ((Fr.drew (λk=>some k=Value.ownBlock (.slice ra L.length cap)) W).trans (Fr.alloc (λk=>some k=Value.ownBlock (.slice ra L.length cap)) W.drew O) (λ_ _ e=>e)).trans (Fr.of_grown hg3) (λ_ _ e=>e)
 have HNX:Hid (∀k,k=w.heap.size∨k=r∨k=pm→¬some k=Value.ownBlock (.slice ra L.length cap)):=by
  rintro k (rfl|rfl|rfl) e
  ·have:=(Zs HH.o.row _ e.symm).2;omega
  ·exact HH.o.nr e.symm
  ·exact HH.o.np e.symm
 obtain⟨rb,capb,rfl,-,-⟩:=Xf hown3;obtain⟨n1,hn1⟩:=Za (L.length+1);rw[hn1] at hrun hown3;have b3:w3.heap[r]?=_:=(hf3.block r (by omega) (HNX.o _ (Or.inr (Or.inl rfl)))).trans h1.blk;have c3:w3.cell? ⟨r,0,none⟩=_:=Zk w3 r 0 _ _ (0,0) b3;have z3:w3.frozen? ⟨r,0,none⟩=false:=by simp[World.frozen?,b3]
 have hf4:Fr (λk=>k=r) w3 (w3.setCell ⟨r,0,none⟩ (.slice rb n1 capb)):=Fr.setCell w3 ⟨r,0,none⟩ _;have h4:RbC (w3.setCell ⟨r,0,none⟩ (.slice rb n1 capb)) base r (L++[y]) (.slice rb n1 capb) pm n M:=by
  refine RbC.mk' ?_ ?_ ?_ h1.br h1.bp
  ·rw[Zi w3 r 0 _ _ _ b3];rfl
  ·unfold OsAt;have e1:(L++[y]).length=n1:=by rw[Zf];exact hn1
   have e2:(L++[y]).flatMap (ordL 0 0)=L.flatMap (ordL 0 0)++ordL 0 0 y:=by simp
   rw[e1,e2];refine YY hown3 (λg hg=>hf4.block g (Zs hown3 g hg).2 (λe => ?_));rcases hown3.2 with⟨e',-⟩|⟨g',cap',cur,e',-,e3,-⟩
   ·rw[e'] at hg;cases hg
   ·rw[e'] at hg;cases hg;have e4:g'=r:=e;rw[e4,b3] at e3;simp at e3
  ·exact h1.map.keep ((hf4.block pm (Zn h1.map.lt hf3.size) (λe=>hrp e.symm)).trans (hf3.block pm h1.map.lt (HNX.o _ (Or.inr (Or.inr rfl)))))
 have q2':(w3.setCell ⟨r,0,none⟩ (.slice rb n1 capb)).cell? ⟨w.heap.size,2,none⟩=some (.int .u32 y.ref):=hf4.cell (hf3.cell q2 (HNX.o _ (Or.inl rfl))) hxr;have hB4:Below base w (w3.setCell ⟨r,0,none⟩ (.slice rb n1 capb)):=by refine hF0.trans (Below.trans (b:=w3) ?_ (hf4.belowB (Zw hbW hf3.size) h1.br));exact hf3.below hbW (λk e=>(Zs h1.row k e.symm).1)
 have H4:=Zc (Zd h4 (Zd q2' hB4));have HSZ:=Zc hsz;rw[hO] at hrun gA;have hrun2:(AppOp #[63,63] 63 #[.slice ra L.length cap,.slice (some ⟨W.heap.size,0,none⟩) 1 1]).run prog ((W.alloc (.cells #[.int .i64 0,.int .i64 0,.int .u32 y.ref,.int .u32 y.qf,.int .u8 y.qe.toNat,.int .u8 y.qd,.int .u16 y.qc,.int .u16 y.qa] 108)).drew)=.ok (.slice rb n1 capb) w3:=hrun;have HN1:=Zc hn1;clear hrun h1 hF0 hown3 hg3 hf3 b3 hOA hsz hO h4 q2' hB4 hf4 HBX hn1;go_region_with fail
 all_goals
  generalize w3.setCell ⟨r,0,none⟩ (.slice rb n1 capb)=w4 at H4 ⊢;clear hrun2 c3 z3 gA g0 q0 q1 q2 q3 q4 q5 q6 q7;obtain⟨g0,g1,-,-⟩:=H4.o.1.cells;have q2:=H4.o.2.1;obtain⟨w5,hrun,hM5,hf5⟩:=(H4.o.1.map.keep (w':=w4.drew) rfl).storeG y.ref L.length hy (by omega) hn;have m2:w5.cell? ⟨r,0,none⟩=some (.slice rb n1 capb)∧w5.cell? ⟨r,1,none⟩=some (.map (some pm))∧w5.cell? ⟨w.heap.size,2,none⟩=some (.int .u32 y.ref):=⟨hf5.cell (w:=w4.drew) g0 hrp,hf5.cell (w:=w4.drew) g1 hrp,hf5.cell (w:=w4.drew) q2 hxp⟩;replace hM5:=Zc hM5;replace hf5:=Zc hf5;have hw1:IntKind.i64.wrap ((n1:Int)-1)=(L.length:Int):=by rw[Zq];have:=HN1.o;omega
  go_wp2_with fail;go_region_held3 (λw'=>w'.cell? ⟨r,0,none⟩=some (.slice rb n1 capb)∧w'.cell? ⟨r,1,none⟩=some (.map (some pm))∧w'.cell? ⟨w.heap.size,2,none⟩=some (.int .u32 y.ref)) (first|exact m2|go_keep) (fail)
  go_end0
  have hB5:Below base w4 w5:=(Zm base w4).drew.trans (hf5.out.belowB (Zw hb H4.o.2.2.size) HH.o.bp);exact⟨rfl,_,(H4.o.1.drewN 1).turnM hf5.out hM5.out,H4.o.2.2.trans hB5⟩
end
section
open Go.RowKit
attribute [local go_sem ↓] Go.wp_at_zero Go.wp_at_succ
theorem Ix.place (h:Ix L M)(ho:liv L t=some o):∃p,M t=some p∧L[p]?=some o:=by
 cases hM:M t with
 | none=>rw[h.unfound hM] at ho;cases ho
 | some p=>
  obtain⟨o',h1,-,h2⟩:=h.found hM;rw[ho] at h2;cases h2;exact⟨p,rfl,h1⟩
theorem Zjh (h:liv L t=some o):o.ref=t∧o.qa≠0∧o∈L:=by have:=(Xy _ _).1 (List.find?_some h);exact⟨this.1,this.2,List.mem_of_find?_eq_some h⟩
theorem TT (h:RbAt w base r L)(t:Nat)(ht:t<4294967296):
  Calls prog 73 #[.pointer (some ⟨r,0,none⟩),.int .u32 t] w λe w'=>e=.returned (.int .u16 (Xz L t))∧w'=w:=by
 obtain⟨v,pm,n,M,h1,h2,-,-⟩:=h;exact left_any h1 h2 t ht
theorem Zai (h:RbAt w base r L)(hb:base≤w.heap.size)(t m:Nat)(o:Ord)(ht:t<4294967296)(ho:liv L t=some o)(hm:m≤o.qa):
  Calls prog 76 #[.pointer (some ⟨r,0,none⟩),.int .u32 t,.int .u16 m] w λe w'=>e=.returned (.tuple #[])∧RbAt w' base r (XP t m L)∧Below base w w':=by
 obtain⟨v,pm,n,M,h1,h2,h3,h4⟩:=h;obtain⟨p,hM,hp⟩:=h2.place ho;have hs:=(h4 o (ZW hp));have hch:=h2.ch hM hp (λo=>{o with qa:=o.qa-m});have hsm:∀d,d≤o.qa→∀x∈L.set p {o with qa:=d},x.small:=by
  intro d hd x hx;rcases Zbd hx with rfl|hx
  ·exact⟨hs.ref,hs.qf,hs.qd,hs.qc,by have:=hs.qa;show d<65536;omega⟩
  ·exact h4 x hx
 obtain⟨hr1,hr2,-⟩:=Zjh ho;by_cases hd:o.qa=m
 ·refine(Qp h1 hb t p m o ht hM hp hd hs.qa).mono ?_;rintro e w' ⟨rfl,n',hn',hr,hB,-⟩;refine⟨rfl,⟨v,pm,n',updM M t none,?_,?_,?_,?_⟩,hB⟩
  ·unfold XP;rw[hch,show o.qa-m=0 by omega];exact hr
  ·unfold XP;rw[hch,show o.qa-m=0 by omega];exact h2.dead hM hp rfl
  ·unfold XP;rw[hch,Yf];omega
  ·unfold XP;rw[hch];exact hsm _ (by omega)
 ·refine(Zhf h1 hb t p m (o.qa-m) o ht hM hp (by omega) (by omega) hs.qa).mono ?_;rintro e w' ⟨rfl,hr,hB⟩;refine⟨rfl,⟨v,pm,n,M,?_,?_,?_,?_⟩,hB⟩
  ·unfold XP;rw[hch];exact hr
  ·unfold XP;rw[hch];exact h2.part hM hp ((Xy _ _).2 ⟨hr1,by show o.qa-m≠0;omega⟩)
  ·unfold XP;rw[hch,Yf];exact h3
  ·unfold XP;rw[hch];exact hsm _ (by omega)
theorem add_at (h:RbAt w base r L)(hb:base≤w.heap.size)(y:Ord)(hy:y.small)(h0:y.qa≠0)(hl:Xz L y.ref=0)(hL:L.length<4398046511104):
  Calls prog 75 #[.pointer (some ⟨r,0,none⟩),ordV 0 0 y] w λe w'=>e=.returned (.tuple #[])∧RbAt w' base r (L++[y])∧Below base w w':=by
 obtain⟨v,pm,n,M,h1,h2,h3,h4⟩:=h;have hM:=h2.free hl;refine(Zfl h1 hb y hy.ref (by unfold maxLen;omega) hL).mono ?_;rintro e w' ⟨rfl,v',hr,hB⟩;rw[hM] at hr;refine⟨rfl,⟨v',pm,n+1,_,hr,h2.add hM h0,?_,?_⟩,hB⟩
 ·rw[Zf];simp;exact h3
 ·intro x hx;rcases ZE.1 hx with hx|hx
  ·exact h4 x hx
  ·simp at hx;rw[hx];exact hy
theorem set_ix (h:Ix L M){p:Nat}{y:Ord}(hM:M t=some p)(hp:L[p]?=some o)(hy:y.qa≠0)(hu:y.ref=t∨Xz L y.ref=0):
  (updM M t none) y.ref=none∧(L.set p {o with qa:=0})[p]?=some {o with qa:=0}∧Ix (L.set p y) (updM (updM M t none) y.ref (some p)):=by
 have hlt:=(Zl.1 hp).1;have e1:(updM M t none) y.ref=none:=by
  by_cases e:y.ref=t
  ·rw[e,Xt]
  ·rw[XF _ _ _ _ e];rcases hu with hu|hu
   ·exact absurd hu e
   ·exact h.free hu
 have e2:(L.set p {o with qa:=0})[p]?=some {o with qa:=0}:=by rw[YO,Zg rfl,Zg hlt]
 refine⟨e1,e2,?_⟩;have:=(h.dead hM hp (y:={o with qa:=0}) rfl).put e2 rfl e1 hy
 rwa [YJ] at this
end
section
open Go.RowKit
attribute [local go_sem ↓] Go.wp_at_zero Go.wp_at_succ
attribute [local go_sem] Qb Za4
def FolP (res:Option (List Ord))(base r:Nat)(w:World)(e:Ending)(w':World):Prop:=
 Below base w w'∧((res=none∧e=.returned (.bool false))∨∃L',res=some L'∧e=.returned (.bool true)∧RbAt w' base r L')
theorem QW (g o n cap t:Nat)(l:List UInt8)(w:World)(hn:l.length=n)(hl:4≤n)(hc:n≤cap)(hc2:cap≤9223372036854775807)(h:Lies w g o l)(ht:num (l.take 4) 0=t):
  Calls prog 70 #[.slice (some ⟨g,o,none⟩) n cap] w λe w'=>∃o',e=.returned (.tuple #[.int .u32 t,.slice (some ⟨g,o',none⟩) (n-4) (cap-4)])∧(4<cap→o'=o+4)∧∃n,w'=w.drewN n:=by
 subst ht;exact TU g o n cap l w hn hl hc hc2 h
theorem Zbg (g o n cap t:Nat)(l:List UInt8)(w:World)(hn:l.length=n)(hl:2≤n)(hc:n≤cap)(hc2:cap≤9223372036854775807)(h:Lies w g o l)(ht:num (l.take 2) 0=t):
  Calls prog 72 #[.slice (some ⟨g,o,none⟩) n cap] w λe w'=>∃o',e=.returned (.tuple #[.int .u16 t,.slice (some ⟨g,o',none⟩) (n-2) (cap-2)])∧(2<cap→o'=o+2)∧∃n,w'=w.drewN n:=by
 subst ht;exact Ur g o n cap l w hn hl hc hc2 h
theorem Zfe (h:RbAt w base r L)(hb:base≤w.heap.size)(g o cap:Nat)(f:List UInt8)(hf:f.length=10)(hc:10≤cap)(hc2:cap≤9223372036854775807)(hl:Lies w g o f):
  Calls prog 51 #[.pointer (some ⟨r,0,none⟩),.slice (some ⟨g,o,none⟩) 10 cap] w (FolP (Qy L f) base r w):=by
 have ht:=UA f 0;have hm:=XY f 4;have HS:Hid (∀t m,at_ f 0 4=t→at_ f 4 2=m→Qy L f=if m=0∨Xz L t<m then none else some (XP t m L)):=by rintro t m rfl rfl;rfl
 obtain⟨t,hte⟩:=Za (at_ f 0 4);obtain⟨m,hme⟩:=Za (at_ f 4 2);have HR:Hid (Qy L f=if m=0∨Xz L t<m then none else some (XP t m L)):=HS.o t m hte hme;have HT:Hid (num (f.take 4) 0=t):=hte;have HM:Hid (num ((f.drop 4).take 2) 0=m):=hme;rw[hte] at ht;rw[hme] at hm;generalize Qy L f=res at *;have HH:=Zc (Zd h hl);clear h hl HS hte hme;go_enter func51,ntmps51;go_wp2_with fail;refine(QW g o 10 cap t f w hf (by omega) hc hc2 HH.o.2 HT.o).mono ?_;rintro e w1 ⟨o1,rfl,ho1,q1,rfl⟩;obtain rfl:=ho1 (by omega);clear ho1;go_wp2_with fail;refine(Zbg g (o+4) 6 (cap-4) m (f.drop 4) (w.drewN q1) (by rw[Zt,hf]) (by omega) (by omega) (by omega) (Lies.keep (HH.o.2.drop 4) rfl) HM.o).mono ?_;rintro e w2 ⟨o2,rfl,ho2,q2,rfl⟩;clear ho2;have HRB:Hid (RbAt ((w.drewN q1).drewN q2) base r L):=(HH.o.1.drewN q1).drewN q2;have HB:Hid (Below base w ((w.drewN q1).drewN q2)):=(XX w q1).trans (XX _ q2);generalize (w.drewN q1).drewN q2=W at *;have HLF:=Zc (TT HRB.o t ht);obtain⟨lf,hlf⟩:=Za (Xz L t);rw[hlf] at HR HLF;have HLE:=Zc hlf;clear hlf;by_cases hm0:m=0
 ·have b0:((m:Int)==0)=true:=by simp[hm0]
  have HE:Hid (res=none):=by have:=HR.o;rw[Zg (Or.inl hm0)] at this;exact this
  clear hm0 HR;go_wp2_with fail;go_ret;exact⟨HB.o,Or.inl ⟨HE.o,rfl⟩⟩
 ·have b0:((m:Int)==0)=false:=by rw[Zz];omega
  by_cases hlt:lf<m
  ·have b1:(lf:Int)<(m:Int):=by omega
   have HE:Hid (res=none):=by have:=HR.o;rw[Zg (Or.inr hlt)] at this;exact this
   clear hm0 HR hlt;go_wp2_with fail;refine HLF.o.mono ?_;rintro e w3 ⟨rfl,hw⟩;subst hw;go_wp2_with fail;go_ret;exact⟨HB.o,Or.inl ⟨HE.o,rfl⟩⟩
  ·have b1:¬(lf:Int)<(m:Int):=by omega
   have HE:Hid (res=some (XP t m L)):=by have:=HR.o;rw[Zj (by omega)] at this;exact this
   obtain⟨od,hod1,hod2,-⟩:=QF (L:=L) (t:=t) (by rw[HLE.o];omega);have HLS:=Zc (Zai HRB.o (Zw hb HB.o.size) t m od ht hod1 (by have:=HLE.o;omega));clear hm0 HR hlt hod1 hod2;go_wp2_with fail;refine HLF.o.mono ?_;rintro e w3 ⟨rfl,hw⟩;subst hw;go_wp2_with fail;refine HLS.o.mono ?_;rintro e w4 ⟨rfl,hr4,hb4⟩;have H4:=Zc (Zd hr4 hb4);clear hr4 hb4;go_wp2_with fail;go_ret;exact⟨HB.o.trans H4.o.2,Or.inr ⟨_,HE.o,rfl,H4.o.1⟩⟩
theorem Ze2 (h:RbAt w base r L)(hb:base≤w.heap.size)(g o cap:Nat)(f:List UInt8)(hf:f.length=6)(hc:6≤cap)(hc2:cap≤9223372036854775807)(hl:Lies w g o f):
  Calls prog 52 #[.pointer (some ⟨r,0,none⟩),.slice (some ⟨g,o,none⟩) 6 cap] w (FolP (QA L f) base r w):=by
 have ht:=UA f 0;have hm:=XY f 4;have HS:Hid (∀t m,at_ f 0 4=t→at_ f 4 2=m→QA L f=if m=0∨Xz L t≤m then none else some (XP t m L)):=by rintro t m rfl rfl;rfl
 obtain⟨t,hte⟩:=Za (at_ f 0 4);obtain⟨m,hme⟩:=Za (at_ f 4 2);have HR:Hid (QA L f=if m=0∨Xz L t≤m then none else some (XP t m L)):=HS.o t m hte hme;have HT:Hid (num (f.take 4) 0=t):=hte;have HM:Hid (num ((f.drop 4).take 2) 0=m):=hme;rw[hte] at ht;rw[hme] at hm;generalize QA L f=res at *;have HH:=Zc (Zd h hl);clear h hl HS hte hme;go_enter func52,ntmps52;go_wp2_with fail;refine(QW g o 6 cap t f w hf (by omega) hc hc2 HH.o.2 HT.o).mono ?_;rintro e w1 ⟨o1,rfl,ho1,q1,rfl⟩;obtain rfl:=ho1 (by omega);clear ho1;go_wp2_with fail;refine(Zbg g (o+4) 2 (cap-4) m (f.drop 4) (w.drewN q1) (by rw[Zt,hf]) (by omega) (by omega) (by omega) (Lies.keep (HH.o.2.drop 4) rfl) HM.o).mono ?_;rintro e w2 ⟨o2,rfl,ho2,q2,rfl⟩;clear ho2;have HRB:Hid (RbAt ((w.drewN q1).drewN q2) base r L):=(HH.o.1.drewN q1).drewN q2;have HB:Hid (Below base w ((w.drewN q1).drewN q2)):=(XX w q1).trans (XX _ q2);generalize (w.drewN q1).drewN q2=W at *;have HLF:=Zc (TT HRB.o t ht);obtain⟨lf,hlf⟩:=Za (Xz L t);rw[hlf] at HR HLF;have HLE:=Zc hlf;clear hlf;by_cases hm0:m=0
 ·have b0:((m:Int)==0)=true:=by simp[hm0]
  have HE:Hid (res=none):=by have:=HR.o;rw[Zg (Or.inl hm0)] at this;exact this
  clear hm0 HR;go_wp2_with fail;go_ret;exact⟨HB.o,Or.inl ⟨HE.o,rfl⟩⟩
 ·have b0:((m:Int)==0)=false:=by rw[Zz];omega
  by_cases hlt:lf≤m
  ·have b1:(lf:Int)≤(m:Int):=by omega
   have HE:Hid (res=none):=by have:=HR.o;rw[Zg (Or.inr hlt)] at this;exact this
   clear hm0 HR hlt;go_wp2_with fail;refine HLF.o.mono ?_;rintro e w3 ⟨rfl,hw⟩;subst hw;go_wp2_with fail;go_ret;exact⟨HB.o,Or.inl ⟨HE.o,rfl⟩⟩
  ·have b1:¬(lf:Int)≤(m:Int):=by omega
   have HE:Hid (res=some (XP t m L)):=by have:=HR.o;rw[Zj (by omega)] at this;exact this
   obtain⟨od,hod1,hod2,-⟩:=QF (L:=L) (t:=t) (by rw[HLE.o];omega);have HLS:=Zc (Zai HRB.o (Zw hb HB.o.size) t m od ht hod1 (by have:=HLE.o;omega));clear hm0 HR hlt hod1 hod2;go_wp2_with fail;refine HLF.o.mono ?_;rintro e w3 ⟨rfl,hw⟩;subst hw;go_wp2_with fail;refine HLS.o.mono ?_;rintro e w4 ⟨rfl,hr4,hb4⟩;have H4:=Zc (Zd hr4 hb4);clear hr4 hb4;go_wp2_with fail;go_ret;exact⟨HB.o.trans H4.o.2,Or.inr ⟨_,HE.o,rfl,H4.o.1⟩⟩
theorem gone_any (h:RbAt w base r L)(hb:base≤w.heap.size)(g o cap:Nat)(f:List UInt8)(hf:f.length=4)(hc:4≤cap)(hc2:cap≤9223372036854775807)(hl:Lies w g o f):
  Calls prog 53 #[.pointer (some ⟨r,0,none⟩),.slice (some ⟨g,o,none⟩) 4 cap] w (FolP (QH L f) base r w):=by
 have ht:=UA f 0;have HS:Hid (∀t,at_ f 0 4=t→QH L f=if Xz L t=0 then none else some (XP t (Xz L t) L)):=by rintro t rfl;rfl
 obtain⟨t,hte⟩:=Za (at_ f 0 4);have HR:Hid (QH L f=if Xz L t=0 then none else some (XP t (Xz L t) L)):=HS.o t hte;have HT:Hid (num (f.take 4) 0=t):=hte;rw[hte] at ht;generalize QH L f=res at *;have HH:=Zc (Zd h hl);clear h hl HS hte;go_enter func53,ntmps53;go_wp2_with fail;refine(QW g o 4 cap t f w hf (by omega) hc hc2 HH.o.2 HT.o).mono ?_;rintro e w1 ⟨o1,rfl,ho1,q1,rfl⟩;clear ho1;have HRB:Hid (RbAt (w.drewN q1) base r L):=HH.o.1.drewN q1;have HB:Hid (Below base w (w.drewN q1)):=XX w q1;generalize w.drewN q1=W at *;have HLF:=Zc (TT HRB.o t ht);obtain⟨lf,hlf⟩:=Za (Xz L t);rw[hlf] at HR HLF;have HLE:=Zc hlf;clear hlf;go_wp2_with fail;refine HLF.o.mono ?_;rintro e w3 ⟨rfl,hw⟩;subst hw;by_cases hm0:lf=0
 ·have b0:((lf:Int)==0)=true:=by simp[hm0]
  have HE:Hid (res=none):=by have:=HR.o;rw[Zg hm0] at this;exact this
  clear hm0 HR;go_wp2_with fail;go_ret;exact⟨HB.o,Or.inl ⟨HE.o,rfl⟩⟩
 ·have b0:((lf:Int)==0)=false:=by rw[Zz];omega
  have HE:Hid (res=some (XP t lf L)):=by have:=HR.o;rw[Zj (by omega)] at this;exact this
  obtain⟨od,hod1,hod2,-⟩:=QF (L:=L) (t:=t) (by rw[HLE.o];omega);have HLS:=Zc (Zai HRB.o (Zw hb HB.o.size) t lf od ht hod1 (by have:=HLE.o;omega));clear hm0 HR hod1 hod2;go_wp2_with fail;refine HLS.o.mono ?_;rintro e w4 ⟨rfl,hr4,hb4⟩;have H4:=Zc (Zd hr4 hb4);clear hr4 hb4;go_wp2_with fail;go_ret;exact⟨HB.o.trans H4.o.2,Or.inr ⟨_,HE.o,rfl,H4.o.1⟩⟩
theorem Tu {g o:Nat}{l:List UInt8}(h:Lies w g o l)(hg:g<w.heap.size)(A:Obj)(n:Nat):Lies ((w.alloc A).drewN n) g o l:=
 h.keep (by show(w.alloc A).heap[g]?=_;rw[YX,Zj (by omega)])
theorem Zh0 (h:RbAt w base r L)(hb:base≤w.heap.size)(hL:L.length<4398046511104)(g o cap:Nat)(f:List UInt8)(hf:f.length=10)(hc:10≤cap)(hc2:cap≤9223372036854775807)(hl:Lies w g o f)(hg:g<w.heap.size):
  Calls prog 50 #[.pointer (some ⟨r,0,none⟩),.slice (some ⟨g,o,none⟩) 10 cap] w (FolP (Tz L f) base r w):=by
 have HH:=Zc (Zd h hl);obtain⟨y,hy⟩:=Za (fOrd f);have HE1:Hid (num (f.take 4) 0=y.ref):=by rw[←hy];rfl
 have HE2:Hid (num ((f.drop 4).take 1) 0=y.qe.toNat):=by rw[←hy];exact QB f 4 (by omega)
 have HE3:Hid (num ((f.drop 5).take 1) 0=y.qd):=by rw[←hy];exact QB f 5 (by omega)
 have HE4:Hid (num ((f.drop 8).take 2) 0=y.qc):=by rw[←hy];rfl
 have HE5:Hid (num ((f.drop 6).take 2) 0=y.qa):=by rw[←hy];rfl
 have HTK:Hid (y.qf=0):=by rw[←hy];rfl
 have HSM:Hid y.small:=by rw[←hy];exact⟨UA f 0,by show 0<4294967296;omega,(Xa f 5).toNat_lt,XY f 8,XY f 6⟩
 have HR:Hid (Tz L f=if Xz L y.ref≠0∨¬(y.qe=66∨y.qe=83)∨y.qa=0 then none else some (L++[y])):=by rw[←hy];rfl
 generalize Tz L f=res at *;clear h hl hy;go_enter func50,ntmps50;go_wp2_with fail;refine(TU g o 10 cap f _ hf (by decide) hc hc2 (Tu HH.o.2 hg _ 0)).mono ?_;rintro e w1 ⟨o1,rfl,ho1,q1,rfl⟩;obtain rfl:=ho1 (by omega);clear ho1;go_wp2_with fail;refine(Zcc g (o+4) 6 (cap-4) (f.drop 4) _ (by rw[Zt,hf]) (by decide) (by omega) (by omega) (Tu (HH.o.2.drop 4) hg _ _)).mono ?_;rintro e w2 ⟨o2,rfl,ho2,q2,rfl⟩;obtain rfl:=ho2 (by omega);clear ho2;go_wp2_with fail;refine(Zcc g (o+5) 5 (cap-5) (f.drop 5) _ (by rw[Zt,hf]) (by decide) (by omega) (by omega) (Tu (HH.o.2.drop 5) hg _ _)).mono ?_;rintro e w3 ⟨o3,rfl,ho3,q3,rfl⟩;obtain rfl:=ho3 (by omega);clear ho3;go_wp2_with fail;refine(Ur g (o+6) 4 (cap-6) (f.drop 6) _ (by rw[Zt,hf]) (by decide) (by omega) (by omega) (Tu (HH.o.2.drop 6) hg _ _)).mono ?_;rintro e w4 ⟨o4,rfl,ho4,q4,rfl⟩;obtain rfl:=ho4 (by omega);clear ho4;go_wp2_with fail;refine(Ur g (o+8) 2 (cap-8) (f.drop 8) _ (by rw[Zt,hf]) (by decide) (by omega) (by omega) (Tu (HH.o.2.drop 8) hg _ _)).mono ?_;rintro e w5 ⟨o5,rfl,ho5,q5,rfl⟩;clear ho5;go_wp2_with fail;rw[HE1.o,HE2.o,HE3.o,HE4.o,HE5.o];generalize q1+q2+q3+q4+q5=q;have HRB:Hid (∀O:Obj,RbAt ((w.alloc O).drewN q) base r L):=λO=>(HH.o.1.alloc O).drewN q;have HB:Hid (∀O:Obj,Below base w ((w.alloc O).drewN q)):=λO=>YQ ((Zm base w).alloc hb O) q;have HLF:Hid (∀O:Obj,Calls prog 73 #[.pointer (some ⟨r,0,none⟩),.int .u32 y.ref] ((w.alloc O).drewN q) λe w'=>e=.returned (.int .u16 (Xz L y.ref))∧w'=((w.alloc O).drewN q)):=λO=>TT (HRB.o O) y.ref HSM.o.ref;obtain⟨lf,hlf⟩:=Za (Xz L y.ref);rw[hlf] at HLF HR;have HLE:=Zc hlf;clear hlf HE1 HE2 HE3 HE4 HE5;refine(HLF.o _).mono ?_;rintro e w6 ⟨rfl,hw⟩;subst hw;by_cases hl0:lf=0
 ·have b0:¬(0:Int)<(lf:Int):=by omega
  have HE:Hid (res=if ¬(y.qe=66∨y.qe=83)∨y.qa=0 then none else some (L++[y])):=by have:=HR.o;simp only[hl0,ne_eq,not_true_eq_false,false_or] at this;exact this
  have HL0:=Zc hl0;clear hl0 HR;go_wp2_with fail;by_cases hsd:y.qe=66∨y.qe=83
  ·refine(Qa (y.qe.toNat:Int) _ (by rcases hsd with h|h<;>rw[h]<;>simp)).mono ?_;rintro e w7 ⟨rfl,hw⟩;subst hw;by_cases hsh:y.qa=0
   ·have b1:((y.qa:Int)==0)=true:=by simp[hsh]
    have HE':Hid (res=none):=by have:=HE.o;rw[Zg (Or.inr hsh)] at this;exact this
    clear hsh hsd HE;go_wp2_with fail;go_ret;exact⟨HB.o _,Or.inl ⟨HE'.o,rfl⟩⟩
   ·have b1:((y.qa:Int)==0)=false:=by rw[Zz];omega
    have HE':Hid (res=some (L++[y])):=by have:=HE.o;rw[Zj (by intro hh;rcases hh with hh|hh;exact hh hsd;exact hsh hh)] at this;exact this
    have HAD:Hid (∀O:Obj,Calls prog 75 #[.pointer (some ⟨r,0,none⟩),.agg #[.int .i64 0,.int .i64 0,.int .u32 y.ref,.int .u32 0,.int .u8 y.qe.toNat,.int .u8 y.qd,.int .u16 y.qc,.int .u16 y.qa]] ((w.alloc O).drewN q) λe w'=>e=.returned (.tuple #[])∧RbAt w' base r (L++[y])∧Below base ((w.alloc O).drewN q) w'):=λO=>by have:=add_at (HRB.o O) (Zw hb (HB.o O).size) y HSM.o hsh (by rw[HLE.o];exact HL0.o) hL;unfold ordV ordL at this;rw[HTK.o] at this;exact this
    clear hsh hsd HE;go_wp2_with fail;refine(HAD.o _).mono ?_;rintro e w8 ⟨rfl,hr8,hb8⟩;have H8:=Zc (Zd hr8 hb8);clear hr8 hb8;go_wp2_with fail;go_ret;exact⟨(HB.o _).trans H8.o.2,Or.inr ⟨_,HE'.o,rfl,H8.o.1⟩⟩
  ·have HE':Hid (res=none):=by have:=HE.o;rw[Zg (Or.inl hsd)] at this;exact this
   refine(QX y.qe ⟨λh=>hsd (Or.inl h),λh=>hsd (Or.inr h)⟩ _).mono ?_;rintro e w7 ⟨rfl,hw⟩;subst hw;clear hsd HE;go_wp2_with fail;go_ret;exact⟨HB.o _,Or.inl ⟨HE'.o,rfl⟩⟩
 ·have b0:(0:Int)<(lf:Int):=by omega
  have HE:Hid (res=none):=by have:=HR.o;rw[Zg (Or.inl hl0)] at this;exact this
  clear hl0 HR;go_wp2_with fail;go_ret;exact⟨HB.o _,Or.inl ⟨HE.o,rfl⟩⟩
end
end Go.Proofs.YtphkchjejbffeaaGreat
