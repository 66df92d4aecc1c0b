/- X4, X5, X6, Rg3, X7 -/
import Derived.Test.YtphkchjejbffeaaGreatK29
set_option maxHeartbeats 16000000
set_option maxRecDepth 100000
namespace Go.Proofs.YtphkchjejbffeaaGreat
open Tryz
open Go.RowKit
variable {Ta Tb ts:List Tn}{l:List UInt8}{bx wb:Nat}{t:Tn}{x x':Vw}{W w:World}
section
open Go.RowKit
attribute [local go_sem ↓] Go.wp_at_zero Go.wp_at_succ
theorem Zdm (h:LW w wb x (Ta++t::Tb))(o:Opr)(hk:o.kind=7):
  Calls prog 14 #[.pointer (some ⟨wb,0,none⟩),.pointer (some ⟨t.tb,0,none⟩),.agg o.cells.toArray] w λe w'=>e=.returned (.bool true)∧Below w.heap.size w w':=by
 obtain⟨W0,hW0⟩:=Za (w.alloc (.cells o.cells.toArray 43));obtain⟨bx,hbx⟩:=Za (w.heap.size);have hB0:Below w.heap.size w W0:=by rw[←hW0];exact(Zm _ w).alloc (Zh _) _
 have hxb:W0.heap[bx]?=some (.cells o.cells.toArray 43):=by rw[←hW0,YX,Zg hbx.symm]
 obtain⟨kd,on,a,b,c,s⟩:=o;simp only at hk;subst hk;have q0:W0.cell? ⟨bx,0,none⟩=some (.int .i64 7):=Zk W0 bx 0 _ _ (0,0) hxb;have h0:=h.below hB0;have ht0:=h0.tn t (by simp);obtain⟨c0,c1,-,-⟩:=ht0.cells;have HLK:=Zc (the_api.look t.bx t.G t.st W0 ht0.at_);have HTL:=Zc ht0.tbl;have H0:=Zc (Zd h0 hB0);clear h hB0 hxb h0 ht0;unfold Uy at HLK;go_enter func14,ntmps14;go_wp2_with fail;clear hW0;refine HLK.o.mono ?_;rintro e W1 ⟨rfl,hB1⟩;obtain⟨W2,hW2⟩:=Za (W1.alloc (.cells #[.int .i64 0,.int .i64 0,.bool false,.int .i64 0] 70));obtain⟨g,hg⟩:=Za (W1.heap.size);have hB2:Below W1.heap.size W1 W2:=by rw[←hW2];exact(Zm _ _).alloc (Zh _) _
 have hgx:W2.heap[g]?=some (.cells #[.int .i64 0,.int .i64 0,.bool false,.int .i64 0] 70):=by rw[←hW2,YX,Zg hg.symm]
 have z0:W2.cell? ⟨g,0,none⟩=some (.int .i64 0):=Zk W2 g 0 _ _ (0,0) hgx;have z1:W2.cell? ⟨g,1,none⟩=some (.int .i64 0):=Zk W2 g 1 _ _ (0,0) hgx;have z2:W2.cell? ⟨g,2,none⟩=some (.bool false):=Zk W2 g 2 _ _ (0,0) hgx;have z3:W2.cell? ⟨g,3,none⟩=some (.int .i64 0):=Zk W2 g 3 _ _ (0,0) hgx;have y0:W2.frozen? ⟨g,0,none⟩=false:=by simp[World.frozen?,hgx]
 have y1:W2.frozen? ⟨g,1,none⟩=false:=by simp[World.frozen?,hgx]
 have y2:W2.frozen? ⟨g,2,none⟩=false:=by simp[World.frozen?,hgx]
 have y3:W2.frozen? ⟨g,3,none⟩=false:=by simp[World.frozen?,hgx]
 generalize hq1:t.st.time=tm at *;generalize hq2:t.st.ql=rs at *;generalize hq3:t.st.opn=op at *;generalize hq4:t.st.part.length=pl at *;have hX:((((W2.setCell ⟨g,0,none⟩ (.int .i64 (tm:Nat))).setCell ⟨g,1,none⟩ (.int .i64 (rs:Nat))).setCell ⟨g,2,none⟩ (.bool op)).setCell ⟨g,3,none⟩ (.int .i64 (pl:Nat))).heap[g]?=some (.cells #[.int .i64 (tm:Nat),.int .i64 (rs:Nat),.bool op,.int .i64 (pl:Nat)] 70):=by rw[Zi _ g 3 _ _ _ (Zi _ g 2 _ _ _ (Zi _ g 1 _ _ _ (Zi _ g 0 _ _ _ hgx)))];rfl
 have hFX:Fr (λk=>k=g) W2 ((((W2.setCell ⟨g,0,none⟩ (.int .i64 (tm:Nat))).setCell ⟨g,1,none⟩ (.int .i64 (rs:Nat))).setCell ⟨g,2,none⟩ (.bool op)).setCell ⟨g,3,none⟩ (.int .i64 (pl:Nat))):=(((Fr.setCell W2 ⟨g,0,none⟩ _).trans (Fr.setCell _ ⟨g,1,none⟩ _) (λ_ _ e=>e)).trans (Fr.setCell _ ⟨g,2,none⟩ _) (λ_ _ e=>e)).trans (Fr.setCell _ ⟨g,3,none⟩ _) (λ_ _ e=>e);have hs01:=hB1.size;have hBX:Below W0.heap.size W0 ((((W2.setCell ⟨g,0,none⟩ (.int .i64 (tm:Nat))).setCell ⟨g,1,none⟩ (.int .i64 (rs:Nat))).setCell ⟨g,2,none⟩ (.bool op)).setCell ⟨g,3,none⟩ (.int .i64 (pl:Nat))):=(hB1.trans (hB2.mono hB1.size)).trans (hFX.below (Zw hB1.size hB2.size) (λk e=>by have e:k=g:=e;omega));have HX:=Zc (Zd hX hBX);have HQ:=Zc (Zd hq1 (Zd hq2 (Zd hq3 hq4)));clear hB1 hB2 hgx hX hFX hBX hs01 q0 c0 HLK hq1 hq2 hq3 hq4;go_upto_region 25 with(fail)
 clear z0 z1 z2 z3 y0 y1 y2 y3 hW2;generalize (((W2.setCell ⟨g,0,none⟩ (.int .i64 (tm:Nat))).setCell ⟨g,1,none⟩ (.int .i64 (rs:Nat))).setCell ⟨g,2,none⟩ (.bool op)).setCell ⟨g,3,none⟩ (.int .i64 (pl:Nat))=W3 at *;have u0:W3.cell? ⟨g,0,none⟩=some (.int .i64 (tm:Nat)):=Zk W3 g 0 _ _ (0,0) HX.o.1;have u1:W3.cell? ⟨g,1,none⟩=some (.int .i64 (rs:Nat)):=Zk W3 g 1 _ _ (0,0) HX.o.1;have u2:W3.cell? ⟨g,2,none⟩=some (.bool op):=Zk W3 g 2 _ _ (0,0) HX.o.1;have u3:W3.cell? ⟨g,3,none⟩=some (.int .i64 (pl:Nat)):=Zk W3 g 3 _ _ (0,0) HX.o.1;have hgl:g<W3.heap.size:=(Ze.1 HX.o.1).1;have c13:W3.cell? ⟨t.tb,1,none⟩=some (.pointer (some ⟨t.rb,0,none⟩)):=(HX.o.2.cell (p:=⟨t.tb,1,none⟩) HTL.o).trans c1;have ht3:=(H0.o.1.below HX.o.2).tn t (by simp);have HRL:=Zc (Zkk (ht3.rw.keep (w':=W3.drew) (λ_ _=>rfl)));unfold Uy at HRL;rw[HQ.o.1,HQ.o.2.1,HQ.o.2.2.1,HQ.o.2.2.2] at HRL;clear ht3 c1;go_cut [6] from 20 (λs6 wx=>s6=.bool true∧Hid (Below W3.heap.size W3 wx))
 case first=>
  go_region_with (go_at_call 41;refine HRL.o.mono ?_;rintro e w5 ⟨rfl,hB5⟩;have v0:w5.cell? ⟨g,0,none⟩=_:=(hB5.cell (p:=⟨g,0,none⟩) hgl).trans u0;have v1:w5.cell? ⟨g,1,none⟩=_:=(hB5.cell (p:=⟨g,1,none⟩) hgl).trans u1;have v2:w5.cell? ⟨g,2,none⟩=_:=(hB5.cell (p:=⟨g,2,none⟩) hgl).trans u2;have v3:w5.cell? ⟨g,3,none⟩=_:=(hB5.cell (p:=⟨g,3,none⟩) hgl).trans u3)
  all_goals
   go_wp2_with fail;go_meet
   case rel=>exact⟨by simp,⟨hB5.os,hB5.tape,hB5.output,hB5.size,hB5.block⟩⟩
 case rest=>
  obtain⟨rfl,HC⟩:=hcut;go_wp2_with fail;go_ret;exact⟨rfl,H0.o.2.trans ((HX.o.2.trans (HC.o.mono HX.o.2.size)).mono H0.o.2.size)⟩
theorem Us (c n:Int)(w:World)(hc1:-9223372036854775808≤c)(hc2:c≤9223372036854775807)(hn1:0<n)(hn2:n≤9223372036854775807):
  Calls prog 25 #[.int .i64 c,.int .i64 n] w λe w'=>e=.returned (.int .i64 (pick c n.toNat:Nat))∧w'=w:=by
 have hp:((pick c n.toNat:Nat):Int)=(if c<0 then -(c+1) else c)%n:=by unfold pick;rw[Int.natCast_emod,Int.toNat_of_nonneg (by split<;>omega),Int.toNat_of_nonneg (by omega)]
 by_cases hc:c<0
 ·rw[Zg hc] at hp;have H:Hid (((pick c n.toNat:Nat):Int)=(-(c+1))%n):=hp;clear hp;go_enter func25,ntmps25;go_wp2
  go_ret;exact⟨TM (by rw[H.o,←Int.neg_tmod,Int.tmod_eq_emod_of_nonneg (by omega)]),rfl⟩
 ·rw[Zj hc] at hp;have H:Hid (((pick c n.toNat:Nat):Int)=c%n):=hp;clear hp;go_enter func25,ntmps25;go_wp2
  go_ret;exact⟨TM (by rw[H.o]),rfl⟩
theorem infoTw :(prog.info? 55).map (λi=>(i.zero,i.size,i.bytes))=some (some (.pointer none),1,8):=by kernel_rfl
theorem und_tws :prog.underlying 45=some (.slice 55):=by kernel_rfl
theorem VC.upAll {w':World}{U U':Nat→Prop}{va':Value}{ts':List Nat}(h:VC w U wb x)(hb:w'.heap[wb]?=some (.cells ({x with va:=va',ts:=ts'}:Vw).blk 50))(hr:w'.ownsRow 0 55 1 va' ts'.length (ts'.map λt=>.pointer (some ⟨t,0,none⟩)))
  (hf:Fr (λk=>k=wb∨x.va.ownBlock=some k) w w') (hn:∀g,va'.ownBlock=some g→x.va.ownBlock=some g∨¬U' g) (hU:∀k,U' k→U k∨w.heap.size≤k):VC w' U' wb {x with va:=va',ts:=ts'}:=by
 have kt:∀g t,Ty w g t→t≠50→t≠55→w'.heap[g]?=w.heap[g]?:=λg t hg ht ht2=>hf.block g hg.lt (λe=>e.elim (λe=>hg.ne h.wty ht e) (λe=>hg.ne (Xd h.ral e) ht2 rfl));have nU:∀k,VS wb x k→¬U' k:=λk hk e=>(hU k e).elim (h.nU k hk) (λe=>by have:=h.lt k hk;omega);exact {
  blk:=hb
  ral:=hr
  rin:=YY h.rin (λg hg=>kt g _ (Xd h.rin hg) (by decide) (by decide))
  rby:=YY h.rby (λg hg=>kt g _ (Xd h.rby hg) (by decide) (by decide))
  rbm:=YY h.rbm (λg hg=>kt g _ (Xd h.rbm hg) (by decide) (by decide))
  ror:=YY h.ror (λg hg=>kt g _ (Xd h.ror hg) (by decide) (by decide))
  rom:=YY h.rom (λg hg=>kt g _ (Xd h.rom hg) (by decide) (by decide))
  ful:=λv hv=>(h.ful v hv).keep' (λg hg=>kt g _ ((h.ful v hv).ty hg) (by decide) (by decide))
  exo:=λv hv g hg=>(h.exo v hv g hg).keep (kt g _ (h.exo v hv g hg) (by decide) (by decide))
  inb:=λp hp=>(h.inb p hp).keep (λg hg=>kt g _ (h.bob p hp g hg) (by decide) (by decide))
  bob:=λp hp g hg=>(h.bob p hp g hg).keep (kt g _ (h.bob p hp g hg) (by decide) (by decide))
  ink:=λp hp=>(h.ink p hp).keep (λg _ _ hg=>kt g _ ((h.ink p hp).ty hg) (by decide) (by decide))
  nib:=h.nib
  nuc:=h.nuc
  nU:=by
   rintro k (e|e|e)
   ·exact nU k (.inl e)
   ·rcases hn k e with q|q
    ·exact nU k (.inr (.inl q))
    ·exact q
   ·exact nU k (.inr (.inr e))}
theorem LW.more {w':World}{va':Value}(h:LW w wb x ts)(hb:w'.heap[wb]?=some (.cells ({x with va:=va',ts:=x.ts++[t.tb]}:Vw).blk 50))(hr:w'.ownsRow 0 55 1 va' (x.ts.length+1) ((x.ts.map λt=>.pointer (some ⟨t,0,none⟩))++[.pointer (some ⟨t.tb,0,none⟩)]))
  (hf:Fr (λk=>k=wb∨x.va.ownBlock=some k) w w') (ht:TnA w' t) (hn:∀k,TnS t k→w.heap.size≤k) (hv:∀g,va'.ownBlock=some g→x.va.ownBlock=some g∨(w.heap.size≤g∧¬TnS t g)):LW w' wb {x with va:=va',ts:=x.ts++[t.tb]} (ts++[t]):=by
 have nts:∀s∈ts,∀k,TnS s k→k≠wb∧x.va.ownBlock≠some k:=λs hs k hk=>⟨λe=>h.vc.nU k (.inl e) (.inl ⟨s,hs,hk⟩),λe=>h.vc.nU k (.inr (.inl e)) (.inl ⟨s,hs,hk⟩)⟩;refine⟨?_,?_,?_,?_,h.ex,?_,?_,h.io.trans hf.io⟩
 ·refine h.vc.upAll hb (by rw[Zf,ZH];exact hr) hf ?_ ?_
  ·intro g hg;rcases hv g hg with e|⟨e1,e2⟩
   ·exact .inl e
   ·right
    rintro(⟨s,hs,e⟩|e)
    ·rcases ZE.1 hs with q|q
     ·have:=(h.tn s q).lt g e;omega
     ·simp at q;rw[q] at e;exact e2 e
    ·have e:x.E g:=e;have:=(h.ek g e).2;omega
  ·rintro k (⟨s,hs,e⟩|e)
   ·rcases ZE.1 hs with q|q
    ·exact .inl (.inl ⟨s,q,e⟩)
    ·simp at q;rw[q] at e;exact .inr (hn k e)
   ·exact .inl (.inr e)
 ·show x.ts++[t.tb]=_;rw[h.tsx];simp
 ·intro s hs;rcases ZE.1 hs with q|q
  ·exact(h.tn s q).keep (λk hk=>hf.block k ((h.tn s q).lt k hk) (λe=>e.elim (nts s q k hk).1 (nts s q k hk).2))
  ·simp at q;rw[q];exact ht
 ·rw[Yq];refine⟨h.dj,List.pairwise_singleton _ _,λa ha b hb k e e2 => ?_⟩;simp at hb;rw[hb] at e2;have h1:=(h.tn a ha).lt k e;have h2:=hn k e2;omega
 ·intro k hk;have hk:x.E k:=hk;obtain⟨a,b⟩:=h.ek k hk;exact⟨(hf.block k b (λe=>e.elim (λe=>h.vc.nU k (.inl e) (.inr hk)) (λe=>h.vc.nU k (.inr (.inl e)) (.inr hk)))).trans a,Zn b hf.size⟩
 ·intro s hs k e he;have he:x.E k:=he;rcases ZE.1 hs with q|q
  ·exact h.en s q k e he
  ·simp at q;rw[q] at e;have h1:=(h.ek k he).2;have h2:=hn k e;omega
structure Vz (x x':Vw)(k:Nat):Prop where
 nn:x'.nn≤x.nn+k
 ins:x'.ins.length≤x.ins.length+k
 bys:x'.bys.length≤x.bys.length+4*k
 ords:x'.ords.length≤x.ords.length+4*k
 E:x'.E=x.E
 ob:x'.ob=x.ob
 w0:x'.w0=x.w0
theorem Vg.z {k:Nat}(h:Vg x x' k):Vz x x' k:=⟨h.nn,h.ins,h.bys,h.ords,h.E,h.ob,h.w0⟩
theorem Vz.refl (x:Vw)(k:Nat):Vz x x k:=⟨ZM _ _,ZM _ _,ZM _ _,ZM _ _,rfl,rfl,rfl⟩
theorem Vz.trans {x'':Vw}{a b:Nat}(h:Vz x x' a)(k:Vz x' x'' b):Vz x x'' (a+b):=⟨by have:=h.nn;have:=k.nn;omega,by have:=h.ins;have:=k.ins;omega,by have:=h.bys;have:=k.bys;omega,by have:=h.ords;have:=k.ords;omega,k.E.trans h.E,k.ob.trans h.ob,k.w0.trans h.w0⟩
theorem Vz.mono {a b:Nat}(h:Vz x x' a)(hab:a≤b):Vz x x' b:=⟨by have:=h.nn;omega,by have:=h.ins;omega,by have:=h.bys;omega,by have:=h.ords;omega,h.E,h.ob,h.w0⟩
structure OpOk (o:Opr):Prop where
 k1:-9223372036854775808≤o.kind
 k2:o.kind≤9223372036854775807
 o1:-9223372036854775808≤o.on
 o2:o.on≤9223372036854775807
 a1:-9223372036854775808≤o.a
 a2:o.a≤9223372036854775807
def PlaysP (w':World)(wb:Nat)(x:Vw)(ts:List Tn)(M:Nat):Prop:=∃x' ts',LW w' wb x' ts'∧Vz x x' 2∧ts'.length≤ts.length+1∧(∀t∈ts',t.F≤M)
theorem XJ {W0:World}{kd on a b c:Int}{s:List UInt8}(h:W0.heap[bx]?=some (.cells (Opr.cells ⟨kd,on,a,b,c,s⟩).toArray 43)):W0.cell? ⟨bx,0,none⟩=some (.int .i64 kd)∧W0.cell? ⟨bx,1,none⟩=some (.int .i64 on)∧W0.cell? ⟨bx,2,none⟩=some (.int .i64 a)∧W0.cell? ⟨bx,3,none⟩=some (.int .i64 b)∧W0.cell? ⟨bx,4,none⟩=some (.int .i64 c)∧W0.cell? ⟨bx,5,none⟩=some (.string ⟨s.toArray⟩):=
 ⟨Zk W0 bx 0 _ _ (0,0) h,Zk W0 bx 1 _ _ (0,0) h,Zk W0 bx 2 _ _ (0,0) h,Zk W0 bx 3 _ _ (0,0) h,Zk W0 bx 4 _ _ (0,0) h,Zk W0 bx 5 _ _ (0,0) h⟩
theorem Zdt {M:Nat}(h:LW w wb x ts)(hts:ts.length≤1000000000)(hM:∀t∈ts,t.F≤M)(o:Opr)(hk:o.kind=1):
  Calls prog 12 #[.pointer (some ⟨wb,0,none⟩),.agg o.cells.toArray] w λe w'=>e=.returned (.bool true)∧PlaysP w' wb x ts M∧∀s l p:Nat,o.a=s→o.b=l→o.c=p→1≤s→s≤8→1≤l→l≤64→1≤p→p≤64→∃x' ts' t,LW w' wb x' ts'∧Vz x x' 2∧ts'=ts++[t]∧(∀t∈ts',t.F≤M)∧t.st=opened s l p:=by
 obtain⟨W0,hW0⟩:=Za (w.alloc (.cells o.cells.toArray 43));obtain⟨bx,hbx⟩:=Za (w.heap.size);have hB0:Below w.heap.size w W0:=by rw[←hW0];exact(Zm _ w).alloc (Zh _) _
 have hxb:W0.heap[bx]?=some (.cells o.cells.toArray 43):=by rw[←hW0,YX,Zg hbx.symm]
 obtain⟨kd,on,a,b,c,s⟩:=o;simp only at hk;subst hk;obtain⟨q0,-,q2,q3,q4,-⟩:=XJ hxb;have hbl:bx<W0.heap.size:=(Ze.1 hxb).1;have h0:=h.below hB0;have HM:=Zc hM;by_cases hgood:(1≤a∧a≤8)∧(1≤b∧b≤64)∧(1≤c∧c≤64)
 ·have HN1:=Zc (the_api.new a b c W0 hgood.1.1 hgood.1.2 hgood.2.1.1 hgood.2.1.2 hgood.2.2.1 hgood.2.2.2);have HGD:=Zc hgood;have H0:=Zc (Zd h0 (Zd hB0 hxb));clear h hB0 hxb h0 hgood hM;go_enter func12,ntmps12;go_wp2_with fail;clear hW0;refine HN1.o.mono ?_;rintro e W1 ⟨bp,G,rfl,hat1,hG1,hB1⟩;have HN2:=Zc (rnew_any W1 a b c HGD.o.1.1 HGD.o.1.2 HGD.o.2.1.1 HGD.o.2.1.2 HGD.o.2.2.1 HGD.o.2.2.2);obtain⟨r0,-,r2,r3,r4,-⟩:=XJ ((hB1.block bx hbl).trans H0.o.2.2);have H1:=Zc (Zd hat1 (Zd hG1 hB1));clear HN1 hat1 hG1 hB1 q0 q2 q3 q4;go_wp2_with fail;refine HN2.o.mono ?_;rintro e W2 ⟨rb,rc,rfl,hrw2,hR2,hB2⟩;have hs1:=H1.o.2.2.size;have hs2:=hB2.size;have hB02:Below W0.heap.size W0 W2:=H1.o.2.2.trans (hB2.mono H1.o.2.2.size);have hlw2:=H0.o.1.below hB02;have hat2:AtR W2 bp G (opened a.toNat b.toNat c.toNat):=the_api.keep H1.o.1 (λk e=>hB2.block k (the_api.lt H1.o.1 k e));obtain⟨tb,htb⟩:=Za (W2.heap.size);obtain⟨W3,hW3⟩:=Za (W2.alloc (.cells #[.pointer (some ⟨bp,0,none⟩),.pointer (some ⟨rb,0,none⟩),.slice none 0 0] 73));have hB3:Below W2.heap.size W2 W3:=by rw[←hW3];exact(Zm _ _).alloc (Zh _) _
  have hx3:W3.heap[tb]?=some (.cells #[.pointer (some ⟨bp,0,none⟩),.pointer (some ⟨rb,0,none⟩),.slice none 0 0] 73):=by rw[←hW3,YX,Zg htb.symm]
  have hlw3:=hlw2.below hB3;obtain⟨c0,-,-,-,-,-,-,fz,hwl⟩:=hlw3.vc.cells;obtain⟨d0,-,-,-,-,-,-,-,hwl2⟩:=hlw2.vc.cells;have f0:=fz 0;have hral:=hlw3.vc.ral;obtain⟨rva,cva,hva,-,-⟩:=Xf hral;obtain⟨q,hq⟩:=Za (x.ts.length);have hql:q≤1000000000:=by rw[←hq,H0.o.1.tsx,Yl];exact hts
  obtain⟨T,hT⟩:∃T:Tn,T=⟨tb,bp,rb,G,rc,.slice none 0 0,[],opened a.toNat b.toNat c.toNat,0,0⟩:=⟨_,rfl⟩;have hlt2:=the_api.lt hat2;have hTn:∀k,TnS T k→W0.heap.size≤k∧k<W3.heap.size:=by
   rw[hT];have hs3:=hB3.size;have htl:tb<W3.heap.size:=(Ze.1 hx3).1;rintro k (e|e|e|e)
   ·have e:k=tb:=e;exact⟨by omega,by omega⟩
   ·exact⟨H1.o.2.1 k e,by have:=hlt2 k e;omega⟩
   ·exact⟨by have:=hR2 k e;omega,by have:=hrw2.lt k e;omega⟩
   ·cases e
  have hTA3:TnA W3 T:=by rw[hT];exact⟨hx3,the_api.keep hat2 (λk e=>hB3.block k (hlt2 k e)),hrw2.keep (λk e=>hB3.block k (hrw2.lt k e)),Zh _,ZO _ _ _ _,λk e e2=>by have h1:=the_api.lt H1.o.1 k e;have h2:=hR2 k e2;omega,λe=>by have h1:tb<W2.heap.size:=hlt2 _ e;omega,λe=>by have h1:tb<W2.heap.size:=hrw2.lt _ e;omega,λg hg=>(by cases hg)⟩
  have HLW:=Zc (Zd hlw3 (Zd hTn (Zd hTA3 (Zd hq hva))));rw[hq] at hva hral;rw[hva] at c0 d0 hral;have HR1:Hid (∀O,(W3.alloc O).ownsRow 0 55 1 (.slice rva q cva) q (x.ts.map λt=>.pointer (some ⟨t,0,none⟩))):=λO=>XL hral O;obtain⟨i0,hi0,hz0,hz1,hz2⟩:=info_parts infoTw;have HI:=Zc (Zd hi0 (Zd hz0 (Zd hz1 hz2)));have HNX:Hid (∀(ra2:Option Addr) (ca2:Nat) (w4:World) (O:Obj),(W3.alloc O).grownBy w4 (Value.ownBlock (.slice rva q cva))→w4.ownsRow 0 55 1 (.slice ra2 (q+1) ca2) (q+1) ((x.ts.map λt=>.pointer (some ⟨t,0,none⟩))++[.pointer (some ⟨tb,0,none⟩)])→(Value.ownBlock (.slice ra2 (q+1) ca2)=Value.ownBlock (.slice rva q cva)∨Value.ownBlock (.slice ra2 (q+1) ca2)=some (W3.alloc O).heap.size)→w4.cell? ⟨wb,0,none⟩=some (.slice rva q cva)∧w4.frozen? ⟨wb,0,none⟩=false∧LW (w4.setCell ⟨wb,0,none⟩ (.slice ra2 (q+1) ca2)) wb {x with va:=.slice ra2 (q+1) ca2,ts:=x.ts++[T.tb]} (ts++[T])):=by
   intro ra2 ca2 w4 O hg4 ho4 hv4;have hlw3:=HLW.o.1;have hva:x.va=.slice rva q cva:=by have:=HLW.o.2.2.2.2;rw[HLW.o.2.2.2.1] at this;exact this
   have hf4:Fr (λk=>x.va.ownBlock=some k) W3 w4:=by rw[hva];exact((Fr.alloc (λk=>some k=Value.ownBlock (.slice rva q cva)) W3 O).trans (Fr.of_grown hg4) (λ_ _ e=>e)).mono (λk _ e=>e.symm)
   have hty:=hlw3.vc.wty;have hb4:w4.heap[wb]?=_:=(hf4.block wb hty.lt (λe=>hty.ne (Xd hlw3.vc.ral e) (by decide) rfl)).trans hlw3.vc.blk;have hf5:=Fr.setCell w4 ⟨wb,0,none⟩ (.slice ra2 (q+1) ca2);have hb4':w4.cell? ⟨wb,0,none⟩=some x.va:=Zk w4 wb 0 _ _ (0,0) hb4;refine⟨by rw[←hva];exact hb4',by simp[World.frozen?,hb4],?_⟩;have hTl:T.tb=tb:=by rw[hT]
   have hfr:Fr (λk=>k=wb∨x.va.ownBlock=some k) W3 (w4.setCell ⟨wb,0,none⟩ (.slice ra2 (q+1) ca2)):=(hf4.mono (λ_ _ e=>Or.inr e)).trans (hf5.mono (G:=λk=>k=wb∨x.va.ownBlock=some k) (λ_ _ e=>Or.inl e)) (λ_ _ e=>e);have hva3:∀g,x.va.ownBlock=some g→g<W0.heap.size:=λg hg=>H0.o.1.vc.lt g (.inr (.inl hg));have hwb0:wb<W0.heap.size:=H0.o.1.vc.wty.lt;have hTA5:TnA (w4.setCell ⟨wb,0,none⟩ (.slice ra2 (q+1) ca2)) T:=HLW.o.2.2.1.keep (λk hk=>hfr.block k (HLW.o.2.1 k hk).2 (λe=>by
    have h1:=(HLW.o.2.1 k hk).1;rcases e with e|e
    ·omega
    ·have:=hva3 k e;omega))
   have hfr0:Fr (λk=>k=wb∨x.va.ownBlock=some k) W0 (w4.setCell ⟨wb,0,none⟩ (.slice ra2 (q+1) ca2)):=(Fr.of_below (hB02.trans (hB3.mono hB02.size)) (λk=>k=wb∨x.va.ownBlock=some k)).trans hfr (λ_ _ e=>e);refine H0.o.1.more (t:=T) (va':=.slice ra2 (q+1) ca2) (by rw[Zi w4 wb 0 _ _ _ hb4,hTl];rfl) ?_ hfr0 hTA5 (λk hk=>(HLW.o.2.1 k hk).1) ?_
   ·rw[hTl,HLW.o.2.2.2.1];exact YY ho4 (λg hg=>hf5.block g (Zs ho4 g hg).2 (λe=>(Xd ho4 hg).ne ⟨_,hb4⟩ (by decide) e))
   ·intro g hg;rcases hv4 with e|e
    ·exact .inl (by rw[hva,←e];exact hg)
    ·right
     rw[e] at hg;cases hg;have h1:=hB02.size;have h2:=hB3.size;rw[Xb];exact⟨by omega,λe=>by have:=(HLW.o.2.1 _ e).2;omega⟩
  have HTT:Hid (T.F=0∧T.st=opened a.toNat b.toNat c.toNat):=by rw[hT];exact⟨rfl,rfl⟩
  clear HN2 hrw2 hR2 hB2 hB02 hlw2 hat2 hB3 hx3 hlw3 fz hral hi0 hz0 hz1 hz2 hTn hTA3 hT hva hq r0 r2 r3 r4 hlt2;go_wp2_with (at_builtin;(refine Xc rfl _ _ 45 rfl 0 55 i0 _ 1 8 und_tws HI.o.1 HI.o.2.1 HI.o.2.2.1 HI.o.2.2.2 rfl (by decide) (.slice rva q cva) q (x.ts.map λt=>.pointer (some ⟨t,0,none⟩)) rfl (HR1.o _) (.slice (some ⟨W3.heap.size,0,none⟩) 1 1) 1 [.pointer (some ⟨tb,0,none⟩)] rfl (VK W3 _ _) (by intro u hu;simp at hu;subst hu;rfl) (by unfold maxLen;omega) (by omega) (Zy _) ?_);intro ra2 ca2 w4 ho4 hg4 hv4;have hnx:=HNX.o ra2 ca2 w4 _ hg4 ho4 hv4;have k0:=hnx.1;have k1:=hnx.2.1;replace hnx:=Zc hnx.2.2;clear ho4 hg4 hv4)
  refine(Ul 0 _).mono ?_;rintro e w8 ⟨rfl,rfl⟩;go_wp2_with fail;go_ret;have hF:∀t∈ts++[T],t.F≤M:=by
   intro t ht;rcases ZE.1 ht with q|q
   ·exact HM.o t q
   ·simp at q;rw[q,HTT.o.1];exact Zy _
  refine⟨rfl,⟨_,_,hnx.out,⟨ZM _ _,ZM _ _,ZM _ _,ZM _ _,rfl,rfl,rfl⟩,by simp,hF⟩,?_⟩;intro s l p e1 e2 e3 _ _ _ _ _ _;refine⟨_,_,T,hnx.out,⟨ZM _ _,ZM _ _,ZM _ _,ZM _ _,rfl,rfl,rfl⟩,rfl,hF,?_⟩;rw[HTT.o.2,e1,e2,e3];rfl
 ·have hbad:a<1∨8<a∨b<1∨64<b∨c<1∨64<c:=by omega
  have HN1:=Zc (new_bad W0 a b c hbad);have HN2:=Zc (rnew_bad W0 a b c hbad);have H0:=Zc (Zd h0 hgood);clear h hB0 hxb h0 hgood hM hbad;go_enter func12,ntmps12;go_wp2_with fail;clear hW0;refine HN1.o.mono (Zb ?_);go_wp2_with fail;refine HN2.o.mono (Zb ?_);go_wp2_with fail;refine(Ul 1 _).mono ?_;rintro e w8 ⟨rfl,rfl⟩;go_wp2_with fail;go_ret;refine⟨rfl,⟨x,ts,H0.o.1,Vz.refl _ _,Nat.le_succ _,HM.o⟩,?_⟩;intro s l p e1 e2 e3 _ _ _ _ _ _;exact absurd ⟨⟨by omega,by omega⟩,⟨by omega,by omega⟩,⟨by omega,by omega⟩⟩ H0.o.2
end
section
open Go.RowKit
theorem Ub {P:Program}{id:Nat}{ops:Array Oper}{Q:Exit→Go.Act→World→Prop}{pre suf vals0:List Value}{df:List Deferred}
  (hm:P.follows .mixedOrders=true) (pl:List Nat) (m:Nat) (hs:UJ ops=true) (hp:rgPl pl m=true) (n:Nat) (hpn:pl.length=n) (hn:ops.size=n+1) (V:Nat→Value→World→Prop) (p:Nat) (hpp:p<n) (R:Bool→World→Prop) (hv0:vals0.length=m) (hR:R false w.drew)
  (step:∀i o,i<n→ops[i]?=some o→∀bb vals w,vals.length=m→(i=p→bb=false)→R bb w→(∀e∈o.after,V e.on (vals.getD (pl.getD e.on 0) undef) w)→
   ∀K:Go.Act→World→Prop,(∀v w',V i v w'→R (bb||i==p) w'→(∀j u,V j u w→V j u w')→K (Xe pre (vals.set (pl.getD i 0) v) suf df) w')→o.wp P (Xe pre vals suf df) w K Q)
  (last:∀o,ops[n]?=some o→∀vals w,vals.length=m→R true w→(∀j,j<n→V j (vals.getD (pl.getD j 0) undef) w)→
   ∀K:Go.Act→World→Prop,(∀a' w',Q .normal a' w'→K a' w')→o.wp P (Xe pre vals suf df) w K Q):
  (Code.region id ops true).wp P Q (Xe pre vals0 suf df) w:=by
 refine wp_region_any hm ?_;refine Zdl (λlisted a w=>listed.size=n+1∧(∀i o,ops[i]?=some o→listed.getD i false=true→∀e∈o.after,listed.getD e.on false=true)∧
   ((listed.getD n false=true∧Q .normal a w)∨(listed.getD n false=false∧R (listed.getD p false) w∧∃vals,vals.length=m∧a=Xe pre vals suf df∧∀j,j<n→listed.getD j false=true→V j (vals.getD (pl.getD j 0) undef) w))) ?_ ?_ _ _ _ _ ?_ ?_
 ·rintro listed a w ⟨hsz,hcl,h⟩ hr;have hall:∀k,k<n+1→∀j,j≤k→listed.getD j false=true:=by
   intro k;induction k with
   | zero=>
    intro hk j hj;rcases hb:listed.getD j false with _|_
    ·exfalso;have hjn:j<ops.size:=by omega
     have:j∈Region.ready .any ops listed:=mem_ready.2 ⟨by
      rw[Yj,ZY (by omega)] at hb ⊢;exact hb,ops[j],ZY hjn,λe he _=>by
      have:=((TL hs (ZY hjn)).2 e he).1;omega⟩
     rw[hr] at this;cases this
    ·rfl
   | succ k ih=>
    intro hk j hj;rcases Nat.lt_or_ge j (k+1) with h'|h'
    ·exact ih (by omega) j (by omega)
    ·have hjk:j=k+1:=by omega
     subst hjk;rcases hb:listed.getD (k+1) false with _|_
     ·exfalso;have hjn:k+1<ops.size:=by omega
      have:k+1∈Region.ready .any ops listed:=mem_ready.2 ⟨by
       rw[Yj,ZY (by omega)] at hb ⊢;exact hb,ops[k+1],ZY hjn,λe he _=>by
       have:=((TL hs (ZY hjn)).2 e he).1;exact ih (by omega) e.on (by omega)⟩
      rw[hr] at this;cases this
     ·rfl
  rcases h with⟨-,h⟩|⟨h,-⟩
  ·exact h
  ·rw[hall n (by omega) n (Zh _)] at h;cases h
 ·rintro listed a w ⟨hsz,hcl,h⟩ i hr;obtain⟨h0,o,ho,qh⟩:=mem_ready.1 hr;have hlt:i<n+1:=by have:=(Ze.1 ho).1;omega
  obtain⟨hg,haf⟩:=TL hs ho;have h0':listed.getD i false=false:=by rw[Yj,ZY (by omega)] at h0 ⊢;exact h0
  have hcl':∀i' o',ops[i']?=some o'→(listed.setIfInBounds i true).getD i' false=true→∀e∈o'.after,(listed.setIfInBounds i true).getD e.on false=true:=by
   intro i' o' ho' hl e he;refine getD_set_true ?_;by_cases hii:i=i'
   ·subst hii;rw[ho] at ho';cases ho';exact qh e he (haf e he).2
   ·rw[getD_set_ne false hii] at hl;exact hcl i' o' ho' hl e he
  rcases h with⟨hl,-⟩|⟨hl,hRw,vals,hvl,rfl,hV⟩
  ·exfalso;have hall:∀k j,j+k=n→listed.getD j false=true:=by
    intro k;induction k using Nat.strongRecOn with
    | ind k ih=>
     intro j hjk;rcases Nat.eq_zero_or_pos k with rfl|hk
     ·rw[show j=n by omega];exact hl
     ·obtain⟨s,os,hjs,hos,e,he,hej⟩:=Tw hs (j:=j) (by omega);have hsn:s<n+1:=by have:=(Ze.1 hos).1;omega
      have:=hcl s os hos (ih (n-s) (by omega) s (by omega)) e he;rw[hej] at this;exact this
   rw[hall (n-i) i (by omega)] at h0';cases h0'
  ·refine wpOp_step ho λK' hK' => ?_;rw[Zg (Zek hg _)];by_cases hin:i=n
   ·subst hin;have hallx:∀k j,j+k=i→j<i→listed.getD j false=true:=by
      intro k;induction k using Nat.strongRecOn with
      | ind k ih=>
       intro j hjk hji;obtain⟨s,os,hjs,hos,e,he,hej⟩:=Tw hs (j:=j) (by omega);have hsn:s<i+1:=by have:=(Ze.1 hos).1;omega
       by_cases hsi:s=i
       ·subst hsi;rw[ho] at hos;cases hos;have:=qh e he (haf e he).2;rw[hej] at this;exact this
       ·have:=hcl s os hos (ih (i-s) (by omega) s (by omega) (by omega)) e he;rw[hej] at this;exact this
    rw[hallx (i-p) p (by omega) hpp] at hRw;refine last o ho vals w hvl hRw ?_ K' ?_
    ·intro j hj;refine hV j hj ?_;have hall:∀k j,j+k=i→j<i→listed.getD j false=true:=by
      intro k;induction k using Nat.strongRecOn with
      | ind k ih=>
       intro j hjk hji;obtain⟨s,os,hjs,hos,e,he,hej⟩:=Tw hs (j:=j) (by omega);have hsn:s<i+1:=by have:=(Ze.1 hos).1;omega
       by_cases hsi:s=i
       ·subst hsi;rw[ho] at hos;cases hos;have:=qh e he (haf e he).2;rw[hej] at this;exact this
       ·have:=hcl s os hos (ih (i-s) (by omega) s (by omega) (by omega)) e he;rw[hej] at this;exact this
     exact hall (i-j) j (by omega) hj
    ·intro a' w' hq;refine hK' a' w' ⟨by simpa using hsz,hcl',.inl ⟨?_,hq⟩⟩;rw[Yj,Array.getElem?_setIfInBounds,Zg rfl,Zg (by omega)];rfl
   ·refine step i o (by omega) ho (listed.getD p false) vals w hvl (λe=>by rw[←e];exact h0') hRw (λe he=>hV e.on (by have:=(haf e he).1;omega) (qh e he (haf e he).2)) K' ?_;intro v w' hv hR' hst;refine hK' _ w' ⟨by simpa using hsz,hcl',.inr ⟨?_,?_,vals.set (pl.getD i 0) v,by simpa using hvl,rfl,?_⟩⟩
    ·rw[getD_set_ne false hin];exact hl
    ·have hbb:(listed.setIfInBounds i true).getD p false=(listed.getD p false||i==p):=by
      by_cases hip:i=p
      ·subst hip;rw[Yj,Array.getElem?_setIfInBounds,Zg rfl,Zg (by omega)];simp
      ·rw[getD_set_ne false hip];simp[hip]
     rw[hbb];exact hR'
    ·intro j hjn hj;by_cases hij:i=j
     ·subst hij;rw[ZQ,List.getElem?_set_self (by rw[hvl];exact Zg6 hp (by omega))];exact hv
     ·rw[getD_set_ne false hij] at hj;rw[ZQ,List.getElem?_set_ne (Zgm hp (by omega) (by omega) hij),←ZQ];exact hst j _ (hV j hjn hj)
 ·have:=YW (λi=>!(Array.replicate ops.size false).getD i true) (List.range ops.size);unfold Zaf;rw[List.length_range] at this;exact this
 ·have hz:∀j,(Array.replicate ops.size false).getD j false=false:=by intro j;rw[Yj,Array.getElem?_replicate];split<;>rfl
  refine⟨by simp[hn],?_,.inr ⟨hz n,by rw[hz p];exact hR,vals0,hv0,rfl,?_⟩⟩
  ·intro i o _ hl;rw[hz i] at hl;cases hl
  ·intro j _ hj;rw[hz j] at hj;cases hj
def rgV (ks:List Value)(j:Nat)(v:Value)(_:World):Prop:=∀k,ks[j]?=some k→v=k
theorem XB {ks:List Value}{j:Nat}{v:Value}(hk:ks[j]?=some v):rgV ks j v w:=λk' hk'=>by rw[hk] at hk';cases hk';rfl
theorem VC.sub {U U':Nat→Prop}(h:VC w U wb x)(hU:∀k,VS wb x k→¬U' k):VC w U' wb x:=
 {h with nU:=hU}
theorem LW.pt (h:LW w wb x (Ta++t::Tb)):∃gi ci,x.va=.slice (some ⟨gi,0,none⟩) (Ta++t::Tb).length ci∧w.cell? ⟨gi,Ta.length,none⟩=some (.pointer (some ⟨t.tb,0,none⟩))∧gi<w.heap.size:=by
 have hrow:=h.vc.ral;have hl:x.ts.length=(Ta++t::Tb).length:=by rw[h.tsx,Yl]
 rcases hrow.2 with⟨-,h2⟩|⟨gi,ci,cur,h1,-⟩
 ·rw[hl] at h2;simp at h2
 ·refine⟨gi,ci,by rw[h1,hl],?_,(Xd hrow (g:=gi) (by rw[h1];rfl)).lt⟩;have:=hrow.cells (g:=gi) (by rw[h1];rfl) Ta.length (.pointer (some ⟨t.tb,0,none⟩)) (by rw[h.tsx];simp)
  rwa [Yg,ZN] at this
def Zan (w':World)(wb:Nat)(x:Vw)(Ta:List Tn)(t:Tn)(Tb:List Tn)(o:Opr):Prop:=
 ∃x' t',LW w' wb x' (Ta++t'::Tb)∧Vz x x' 2∧t'.F≤t.F+o.s.length∧(o.kind=2∨o.kind=8→t'.st=t.st.feed o.s)∧(o.kind=4→t'.st=t.st.told)∧(o.kind=5→t'.st=t.st.taped)
structure Lent (W V:World)(wb:Nat)(x:Vw)(ts:List Tn)(bx:Nat)(l:List UInt8):Prop where
 vc:∃vi',VC V (λk=>LU x ts k∨k=bx) wb {x with vi:=vi',ex:=[.slice (some ⟨W.heap.size,0,none⟩) (l.length+2) (l.length+2)]}
 lt:V.heap[W.heap.size]?=some (.cells (VR l).toArray 5)
 fr:Fr (λk=>¬(LU x ts k∨k=bx)) W V
 tn:∀t∈ts,TnA V t
theorem lend_tw (h:LW W wb x ts)(hb:bx<W.heap.size)(hn:¬VS wb x bx)(hin:x.ins.length≤1000000000)(hl:l.length≤1000000000):
  Calls prog 27 #[.pointer (some ⟨wb,0,none⟩),.string ⟨l.toArray⟩] W λe w'=>e=.returned (.slice (some ⟨W.heap.size,0,none⟩) l.length (l.length+2))∧Lent W w' wb x ts bx l:=by
 have hv:VC W (λk=>LU x ts k∨k=bx) wb x:=h.vc.sub (λk hk e=>e.elim (h.vc.nU k hk) (λe=>hn (by rw[←e];exact hk)));refine(Zd5 hv h.ex (λk e=>e.elim (h.ult k) (λe=>by omega)) hin l hl).mono ?_;rintro e w' ⟨vi',rfl,h1,h2,h3⟩;exact⟨rfl,⟨vi',h1⟩,h2,h3,λt ht=>(h.tn t ht).keep (λk hk=>h3.block k ((h.tn t ht).lt k hk) (λe=>e (.inl (.inl ⟨t,ht,hk⟩))))⟩
theorem Lent.rd {V:World}(h:Lent W V wb x ts bx l)(hl:l.length≤1000000000)(F:Nat→Prop)(hF:¬F W.heap.size):Rd V F (.slice (some ⟨W.heap.size,0,none⟩) l.length (l.length+2)) l:=by refine .inr ⟨W.heap.size,0,_,rfl,?_,by omega,by unfold maxLen;omega,hF,(Ze.1 h.lt).1⟩;intro j c hc;have hj:j<l.length:=(Zl.1 hc).1;rw[ZN,Zk V W.heap.size j _ _ (0,0) h.lt,Yh];unfold VR;rw[Ye (by rw[Yl];exact hj),Yi,hc];rfl
theorem back_tw {V V3:World}{t':Tn}(hW:LW W wb x (Ta++t::Tb))(_hb:bx<W.heap.size)(h:Lent W V wb x (Ta++t::Tb) bx l)(hin:x.ins.length≤1000000000)(hl:l.length≤1000000000)(htb:t'.tb=t.tb)(ht:TnA V3 t')(hf:Fr (TnS t) V V3)(hn:∀k,TnS t' k→TnS t k∨V.heap.size≤k):
  Calls prog 29 #[.pointer (some ⟨wb,0,none⟩),.string ⟨l.toArray⟩] V3 λe w'=>e=.returned (.bool true)∧∃x',LW w' wb x' (Ta++t'::Tb)∧Vz x x' 2:=by
 obtain⟨vi',hv⟩:=h.vc;obtain⟨h1,h2,h3⟩:=Zjo h.tn hW.dj ht hf hn;have hsz:=h.fr.size;have hmem:t∈Ta++t::Tb:=by simp
 have hv3:VC V3 (λk=>LU x (Ta++t'::Tb) k∨k=bx) wb {x with vi:=vi',ex:=[.slice (some ⟨W.heap.size,0,none⟩) (l.length+2) (l.length+2)]}:=by
  refine hv.turnU (hf.mono (λk _ e=>.inl (.inl ⟨t,hmem,e⟩))) (λk e => ?_);rcases e with(e|e)|e
  ·exact(h3 k e).elim (λe=>.inl (.inl (.inl e))) .inr
  ·exact .inl (.inl (.inr e))
  ·exact .inl (.inr e)
 have hlt3:V3.heap[W.heap.size]?=some (.cells (VR l).toArray 5):=(hf.block _ (Ze.1 h.lt).1 (λe=>by have:=(hW.tn t hmem).lt _ e;omega)).trans h.lt;refine(Zd3 l hv3 rfl hin hl hlt3 (λv hv e=>by have:=((hW.vc.ful v hv).ty e).lt;omega) (λp hp e=>by have:=(hW.vc.bob p hp _ e).lt;omega)).mono ?_;rintro e w' ⟨rfl,h4,h5,-⟩;refine⟨rfl,_,⟨h4.sub (λk hk e=>h4.nU k hk (.inl e)),?_,?_,h2,rfl,?_,?_,(hW.io.trans h.fr.io).trans (hf.io.trans h5.io)⟩,?_⟩
 ·show x.ts=_;rw[hW.tsx];simp[htb]
 ·exact λs hs=>(h1 s hs).keep (λk hk=>h5.block k ((h1 s hs).lt k hk) (λe=>e (.inl (.inl ⟨s,hs,hk⟩))))
 ·intro k hk;have hk:x.E k:=hk;obtain⟨a,b⟩:=hW.ek k hk;have b2:k<V.heap.size:=by omega
  have b3:k<V3.heap.size:=Zn b2 hf.size;exact⟨(h5.block k b3 (λe=>e (.inl (.inr hk)))).trans ((hf.block k b2 (λe=>hW.en t hmem k e hk)).trans ((h.fr.block k b (λe=>e (.inl (.inr hk)))).trans a)),Zn b3 h5.size⟩
 ·intro s hs k e he;have he:x.E k:=he;have hk:=(hW.ek k he).2;rcases h3 k ⟨s,hs,e⟩ with⟨s',hs',e'⟩|e'
  ·exact hW.en s' hs' k e' he
  ·omega
 ·exact⟨ZM _ _,by show(x.ins++_).length≤_;rw[Zf];simp,ZM _ _,ZM _ _,rfl,rfl,rfl⟩
end
end Go.Proofs.YtphkchjejbffeaaGreat
