/- X8, X9, XA, XB -/
import Derived.Test.YtphkchjejbffeaaGreatK30
set_option maxHeartbeats 16000000
set_option maxRecDepth 100000
namespace Go.Proofs.YtphkchjejbffeaaGreat
open Tryz
open Go.RowKit
variable {bb:Bool}{Ta Tb:List Tn}{wb:Nat}{t:Tn}{x:Vw}{V W w:World}
section
open Go.RowKit
attribute [local go_sem ↓] Go.wp_at_zero Go.wp_at_succ
theorem Zax {α:Type}(l:List α)(h:l.length=14):∃x0 x1 x2 x3 x4 x5 x6 x7 x8 x9 x10 x11 x12 x13,l=[x0,x1,x2,x3,x4,x5,x6,x7,x8,x9,x10,x11,x12,x13]:=by
 match l,h with
 | [x0,x1,x2,x3,x4,x5,x6,x7,x8,x9,x10,x11,x12,x13],_=>exact⟨x0,x1,x2,x3,x4,x5,x6,x7,x8,x9,x10,x11,x12,x13,rfl⟩
theorem Rd.to {F F':Nat→Prop}{g n cap:Nat}{l:List UInt8}(h:Rd w F (.slice (some ⟨g,0,none⟩) n cap) l)(hF:¬F' g):Rd w F' (.slice (some ⟨g,0,none⟩) n cap) l:=by
 rcases h with⟨e,-⟩|⟨g',o,c,e,h1,h2,h3,-,h5⟩
 ·cases e
 ·refine .inr ⟨g',o,c,e,h1,h2,h3,?_,h5⟩;simp only[ZX,Ys,YB] at e;rw[←e.1.1];exact hF
def R13 (W:World)(wb:Nat)(x:Vw)(ts:List Tn)(bx:Nat)(s:List UInt8):Bool→World→Prop
 | true,V=>Lent W.drew V wb x ts bx s
 | false,V=>V=W.drew
def R14 (a b:World):Bool→World→Prop
 | true,V=>V=b
 | false,V=>V=a
theorem R13.facts {bx:Nat}{kd on a b c:Int}{s:List UInt8}(h:LW W wb x (Ta++t::Tb))(hx:W.heap[bx]?=some (.cells (Opr.cells ⟨kd,on,a,b,c,s⟩).toArray 43))(hR:R13 W wb x (Ta++t::Tb) bx s bb V):
  V.cell? ⟨t.tb,0,none⟩=some (.pointer (some ⟨t.bx,0,none⟩))∧V.cell? ⟨bx,5,none⟩=some (.string ⟨s.toArray⟩):=by
 cases bb with
 | false=>
  have e:V=W.drew:=hR;subst e;exact⟨(h.tn t (by simp)).cells.1,(XJ hx).2.2.2.2.2⟩
 | true=>
  have e:Lent W.drew V wb x (Ta++t::Tb) bx s:=hR;exact⟨(e.tn t (by simp)).cells.1,(XJ ((e.fr.block bx (Ze.1 hx).1 (λq=>q (.inr rfl))).trans hx)).2.2.2.2.2⟩
theorem Zik (h:LW w wb x (Ta++t::Tb))(hok:Ok x)(hts:(Ta++t::Tb).length≤1000000000)(o:Opr)(ho:OpOk o)(hpk:pick o.on (Ta++t::Tb).length=Ta.length)(hk:o.kind=2∨o.kind=8)(hF:t.F+o.s.length≤1600000):
  Calls prog 12 #[.pointer (some ⟨wb,0,none⟩),.agg o.cells.toArray] w λe w'=>e=.returned (.bool true)∧Zan w' wb x Ta t Tb o:=by
 obtain⟨W0,hW0⟩:=Za (w.alloc (.cells o.cells.toArray 43));obtain⟨bx,hbx⟩:=Za (w.heap.size);have hB0:Below w.heap.size w W0:=by rw[←hW0];exact(Zm _ w).alloc (Zh _) _
 have hxb:W0.heap[bx]?=some (.cells o.cells.toArray 43):=by rw[←hW0,YX,Zg hbx.symm]
 obtain⟨kd,on,a,b,c,s⟩:=o;simp only at hk hF hpk;have HKD:=Zc hk;have hk1:(kd==1)=false:=by rcases hk with rfl|rfl<;>rfl
 have hk2:¬kd=1:=by rcases hk with rfl|rfl<;>decide
 obtain⟨q0,q1,q2,-,-,q5⟩:=XJ hxb;have hbl:bx<W0.heap.size:=(Ze.1 hxb).1;have h0:=h.below hB0;have hnx:¬VS wb x bx:=λe=>by have:=h.vc.lt _ e;omega
 obtain⟨gi,ci,hvi,hgi,hgl⟩:=h0.pt;obtain⟨c0,-,-,-,-,-,-,-,hwl⟩:=h0.vc.cells;have ho1:=ho.o1;have ho2:=ho.o2;obtain⟨q,hq⟩:=Za ((Ta++t::Tb).length);obtain⟨k,hkk⟩:=Za (Ta.length);have hkq:k<q:=by rw[←hq,←hkk,Zf,Zu];omega
 have hq0:¬(q:Int)=0:=by omega
 have hq1:((q:Int)==0)=false:=by simpa using hq0
 have HPK:Hid (∀W,Calls prog 25 #[.int .i64 on,.int .i64 (q:Nat)] W λe w'=>e=.returned (.int .i64 (k:Nat))∧w'=W):=λW=>by have:=Us on (q:Nat) W ho1 ho2 (by omega) (by omega);rw[Yz,←hq,hpk,hkk,hq] at this;exact this
 rw[hvi,hq] at c0;rw[hkk] at hgi;rw[hq] at hts;have hnt:¬TnS t bx:=λe=>by have:=(h.tn t (by simp)).lt _ e;omega
 have HX0:=Zc (Zd h0 (Zd hxb (Zd hnx (Zd hok hnt))));have j1:(k:Int)<(q:Int):=by omega
 have j2:(0:Int)≤(k:Int):=by omega
 have j3:k≤1000000000:=by omega
 have HF:=Zc hF;clear hF;clear h hB0 hxb h0 hnx hok hnt hpk hvi hq hkk ho ho1 ho2;go_enter func12,ntmps12;go_wp2_with fail;clear hW0;refine Xg 70 13 _ ?_;refine Xp (by kernel_rfl) [0,1,2,3,4,5,6,7,8,9,10,11,12,13] 14 (by kernel_rfl) (by decide) 14 rfl rfl (rgD W0.heap.size (λ_=>False) [.val (.pointer (some ⟨wb,0,none⟩)),.val (.pointer (some ⟨wb,0,none⟩)),.val (.pointer (some ⟨wb,0,none⟩)),.val (.slice (some ⟨gi,0,none⟩) q ci),.val (.pointer (some ⟨bx,1,none⟩)),.val (.int .i64 on),.val (.pointer (some ⟨wb,0,none⟩)),.val (.pointer (some ⟨wb,0,none⟩)),.val (.pointer (some ⟨wb,0,none⟩)),.val (.slice (some ⟨gi,0,none⟩) q ci),.val (.int .i64 (q:Nat)),.val (.int .i64 (k:Nat)),.val (.pointer (some ⟨gi,k,none⟩)),.val (.pointer (some ⟨t.tb,0,none⟩))]) (Below W0.heap.size W0) rfl ⟨rfl,rfl,rfl,Zh _,λ_ _=>rfl⟩ ?_ ?_
 ·intro i o hi ho vals W hvl hR qh K hK;obtain⟨x0,x1,x2,x3,x4,x5,x6,x7,x8,x9,x10,x11,x12,x13,rfl⟩:=Zax vals hvl;unfold Xe;simp only[ZA,ZI,ZB,ZJ,ZF,Zr];have qa0:=(hR.cell (p:=⟨wb,0,none⟩) hwl).trans c0;have qa1:=(hR.cell (p:=⟨bx,1,none⟩) hbl).trans q1;have qa2:=(hR.cell (p:=⟨gi,k,none⟩) hgl).trans hgi;have hcase:i=11∨i=12∨i=0∨i=1∨i=2∨i=3∨i=4∨i=5∨i=6∨i=7∨i=8∨i=9∨i=10∨i=13:=by omega
  rcases hcase with rfl|rfl|rfl|rfl|rfl|rfl|rfl|rfl|rfl|rfl|rfl|rfl|rfl|rfl<;>obtain rfl:=Zv ho<;>clear ho hvl
  ·obtain⟨rfl,rfl,-⟩:=Xi qh;clear qh;go_wp2_with (go_at_call 25;refine(HPK.o W).mono (Zb ?_))
   exact hK (.int .i64 (k:Nat)) _ (Xh rfl rfl) hR (λ_ _ h=>h)
  ·obtain⟨rfl,rfl,-⟩:=Xi qh;clear qh;go_wp2_with fail;exact hK _ _ (Xh rfl rfl) hR (λ_ _ h=>h)
  all_goals (have d:=Xi qh;clear qh;try (obtain⟨rfl,-⟩:=d);go_wp2_with fail;exact hK _ _ (Xh rfl rfl) hR (λ_ _ h=>h))
 ·intro o ho vals W9 hvl hR qh K hK;obtain⟨x0,x1,x2,x3,x4,x5,x6,x7,x8,x9,x10,x11,x12,x13,rfl⟩:=Zax vals hvl;obtain rfl:=Zv ho;clear ho hvl;unfold Xe;simp only[ZA,ZI,ZB,ZJ,ZF,Zr];obtain⟨rfl,rfl,rfl,rfl,rfl,rfl,rfl,rfl,rfl,rfl,rfl,rfl,rfl,rfl,-⟩:=Ve qh;clear qh;have hw1:=HX0.o.1.below hR;have hxW:W9.heap[bx]?=_:=(hR.block bx hbl).trans HX0.o.2.1;obtain⟨q0,q1,q2,-,-,q5⟩:=XJ hxW;have hbW:bx<W9.heap.size:=(Ze.1 hxW).1;obtain⟨d0,d1,-,-⟩:=(hw1.tn t (by simp)).cells;clear c0 hgi HPK hR;have hsz9:s.length≤1600000:=by have:=HF.o;omega
  have hw9d:LW W9.drew wb x (Ta++t::Tb):=hw1.below (XX W9 1);obtain⟨n,hn⟩:=Za (s.length);obtain⟨n2,hn2⟩:=Za (n+2);obtain⟨gl,hgl⟩:=Za (W9.heap.size);have HLD:=Zc (lend_tw (l:=s) (bx:=bx) hw9d hbW HX0.o.2.2.1 (by have:=HX0.o.2.2.2.1.ins;omega) (by omega));have hgl2:W9.drew.heap.size=gl:=hgl;rw[hn,hn2,hgl2] at HLD;have HQ:Hid (∀bb V,R13 W9 wb x (Ta++t::Tb) bx s bb V→V.cell? ⟨t.tb,0,none⟩=some (.pointer (some ⟨t.bx,0,none⟩))∧V.cell? ⟨bx,5,none⟩=some (.string ⟨s.toArray⟩)):=λbb V hR=>R13.facts hw1 hxW hR;have HW1:=Zc (Zd hw9d (Zd hxW hbW));have hn':(⟨s.toArray⟩:ByteArray).size=n:=hn;have HN:=Zc (Zd hn (Zd hn2 hgl2));clear hw1 hxW hw9d hn hn2 hgl hgl2 d0 d1;rcases HKD.o with rfl|rfl;all_goals
   go_wp2_with fail;clear q0 q1 q2 q5;refine Xg 89 8 _ ?_;refine Ub (by kernel_rfl) [0,1,2,3,4,5,6,7] 9 (by kernel_rfl) (by decide) 8 rfl rfl (rgV [.pointer (some ⟨t.tb,0,none⟩),.pointer (some ⟨t.tb,0,none⟩),.pointer (some ⟨t.tb,0,none⟩),.pointer (some ⟨t.bx,0,none⟩),.pointer (some ⟨wb,0,none⟩),.pointer (some ⟨bx,5,none⟩),.string ⟨s.toArray⟩,.slice (some ⟨gl,0,none⟩) n n2]) 7 (by decide) (λbb V=>R13 W9 wb x (Ta++t::Tb) bx s bb V) rfl (rfl) ?_ ?_
   ·intro i o hi ho bb vals W hvl hbb hR qh K hK;obtain⟨x0,x1,x2,x3,x4,x5,x6,x7,x8,rfl⟩:=lsl9 vals hvl;unfold Xe;simp only[ZA,ZI,ZB,ZJ,ZF,Zr];have hcase:i=0∨i=1∨i=2∨i=3∨i=4∨i=5∨i=6∨i=7:=by omega
    rcases hcase with rfl|rfl|rfl|rfl|rfl|rfl|rfl|rfl<;>obtain rfl:=Zv ho<;>clear ho hvl
    ·clear qh;go_wp2_with (fail)
     exact hK _ _ (XB rfl) (by cases bb<;>exact hR) (λ_ _ h=>h)
    ·obtain rfl:x0=_:=qh ⟨0,.data⟩ (by simp) _ rfl;clear qh;go_wp2_with (fail)
     exact hK _ _ (XB rfl) (by cases bb<;>exact hR) (λ_ _ h=>h)
    ·obtain rfl:x1=_:=qh ⟨1,.data⟩ (by simp) _ rfl;clear qh;go_wp2_with (fail)
     exact hK _ _ (XB rfl) (by cases bb<;>exact hR) (λ_ _ h=>h)
    ·obtain rfl:x2=_:=qh ⟨2,.data⟩ (by simp) _ rfl;clear qh;have q0:W.cell? ⟨t.tb,0,none⟩=some (.pointer (some ⟨t.bx,0,none⟩)):=(HQ.o bb W hR).1;go_wp2_with (fail)
     exact hK _ _ (XB rfl) (by cases bb<;>exact hR) (λ_ _ h=>h)
    ·clear qh;go_wp2_with (fail)
     exact hK _ _ (XB rfl) (by cases bb<;>exact hR) (λ_ _ h=>h)
    ·clear qh;go_wp2_with (fail)
     exact hK _ _ (XB rfl) (by cases bb<;>exact hR) (λ_ _ h=>h)
    ·obtain rfl:x5=_:=qh ⟨5,.data⟩ (by simp) _ rfl;clear qh;have q0:W.cell? ⟨bx,5,none⟩=some (.string ⟨s.toArray⟩):=(HQ.o bb W hR).2;go_wp2_with (fail)
     exact hK _ _ (XB rfl) (by cases bb<;>exact hR) (λ_ _ h=>h)
    ·obtain rfl:x4=_:=qh ⟨4,.data⟩ (by simp) _ rfl;obtain rfl:x6=_:=qh ⟨6,.data⟩ (by simp) _ rfl;clear qh;obtain rfl:=hbb rfl;have hWe:W=W9.drew:=hR;subst hWe;go_wp2_with (go_at_call 27;refine HLD.o.mono ?_;rintro e w' ⟨rfl,hln⟩)
     exact hK (.slice (some ⟨gl,0,none⟩) n n2) _ (XB rfl) (hln) (λ_ _ h=>h)
   ·intro o ho vals V hvl hR qh K hK;obtain⟨x0,x1,x2,x3,x4,x5,x6,x7,x8,rfl⟩:=lsl9 vals hvl;obtain rfl:=Zv ho;clear ho hvl;unfold Xe;simp only[ZA,ZI,ZB,ZJ,ZF,Zr];obtain rfl:x0=_:=qh 0 (by omega) _ rfl;obtain rfl:x1=_:=qh 1 (by omega) _ rfl;obtain rfl:x2=_:=qh 2 (by omega) _ rfl;obtain rfl:x3=_:=qh 3 (by omega) _ rfl;obtain rfl:x4=_:=qh 4 (by omega) _ rfl;obtain rfl:x5=_:=qh 5 (by omega) _ rfl;obtain rfl:x6=_:=qh 6 (by omega) _ rfl;obtain rfl:x7=_:=qh 7 (by omega) _ rfl;clear qh;have hln:Lent W9.drew V wb x (Ta++t::Tb) bx s:=hR;have htV:=hln.tn t (by simp);have hrd:Rd V t.G (.slice (some ⟨gl,0,none⟩) n n2) s:=by have:=hln.rd (by omega) t.G (λe=>by have:=the_api.lt (HW1.o.1.tn t (by simp)).at_ _ e;omega);rw[HN.o.1,HN.o.2.1,HN.o.2.2] at this;exact this
    have hgr:=gr_feed s t.st;have hlens:=htV.rw.lens (by have:=HF.o;omega);have ha1:=hgr.ans;have ha2:=hgr.tape;have HFD:=Zc (the_api.feed t.bx t.G t.st (.slice (some ⟨gl,0,none⟩) n n2) s V htV.at_ hrd (by unfold big;omega) (by unfold big;omega));have hbxW:V.heap[bx]?=_:=(hln.fr.block bx HW1.o.2.2 (λe=>e (.inr rfl))).trans HW1.o.2.1;have HL:=Zc (Zd hln (Zd htV hbxW));clear hR hln htV hrd hgr hlens ha1 ha2 hbxW;go_wp2_with (go_at_call 26;refine HFD.o.mono ?_;rintro e w2 ⟨G',rfl,hat2,hG2,hfr2⟩)
    obtain⟨hrw2,hbl2⟩:=HL.o.2.1.half hfr2;obtain⟨cap,w5,hrun5,hB5,hrd5⟩:=Zcs w2.drew s (by omega);obtain⟨g5,hg5⟩:=Za (w2.drew.heap.size);have hbx2:w2.heap[bx]?=_:=(hfr2.block bx (Ze.1 HL.o.2.2).1 (λe=>HX0.o.2.2.2.2 (.inr (.inl e)))).trans HL.o.2.2;have hbt2:=hbl2.trans HL.o.2.1.blk;have htl2:t.tb<w2.drew.heap.size:=(Ze.1 hbt2).1;have hbl2':bx<w2.drew.heap.size:=(Ze.1 hbx2).1;have HQ4:Hid (∀bb V,R14 w2.drew w5 bb V→V.cell? ⟨t.tb,1,none⟩=some (.pointer (some ⟨t.rb,0,none⟩))∧V.cell? ⟨bx,5,none⟩=some (.string ⟨s.toArray⟩)):=by
     intro bb V hR;cases bb with
     | false=>
      have e:V=w2.drew:=hR;subst e;exact⟨Zk w2.drew t.tb 1 _ _ (0,0) hbt2,(XJ (W0:=w2.drew) hbx2).2.2.2.2.2⟩
     | true=>
      have e:V=w5:=hR;subst e;exact⟨Zk V t.tb 1 _ _ (0,0) ((hB5.block _ htl2).trans hbt2),(XJ ((hB5.block _ hbl2').trans hbx2)).2.2.2.2.2⟩
    have hrw5:RW w5 t.rb t.c t.st t.F t.tk:=hrw2.keep (λk e=>hB5.block k (hrw2.lt k e));have hf5:Fr t.G V w5:=(hfr2.trans (Fr.drew t.G w2) (λ_ _ e=>e)).trans (Fr.of_below hB5 t.G) (λ_ _ e=>e);have hat5:AtR w5 t.bx G' (t.st.feed s):=the_api.keep hat2 (λk e=>hB5.block k (the_api.lt hat2 k e));rw[HN.o.1,hg5] at hrun5 hrd5;have HRF:=Zc (Zk0 hrw5 (.slice (some ⟨g5,0,none⟩) n cap) s (hrd5.to (F':=RG t.rb t.c) (λe=>by have h1:=hrw2.lt _ e;have h2:w2.heap.size=g5:=hg5;omega)) (by have:=HF.o;omega));have HRUN:=Zc hrun5;have HFIN:Hid (∀w6 c',RW w6 t.rb c' (t.st.feed s) (t.F+s.length) t.tk→RStg w5 w6 t.rb t.c c'→w6.cell? ⟨bx,5,none⟩=some (.string ⟨s.toArray⟩)∧Calls prog 29 #[.pointer (some ⟨wb,0,none⟩),.string ⟨s.toArray⟩] w6 λe w'=>e=.returned (.bool true)∧∃x' t',LW w' wb x' (Ta++t'::Tb)∧Vz x x' 2∧t'.F≤t.F+s.length∧t'.st=t.st.feed s):=by intro w6 c' hr6 hs6;obtain⟨hT,hFr,hSub⟩:=HL.o.2.1.two hf5 hat5 hG2 hr6 (Zh _) hs6;refine⟨(XJ ((hFr.block bx (Ze.1 HL.o.2.2).1 HX0.o.2.2.2.2).trans HL.o.2.2)).2.2.2.2.2,?_⟩;refine(back_tw (t':={t with G:=G',c:=c',st:=t.st.feed s,F:=t.F+s.length,tk:=t.tk}) HW1.o.1 HW1.o.2.2 HL.o.1 (by have:=HX0.o.2.2.2.1.ins;omega) (by omega) rfl hT hFr hSub).mono ?_;rintro e w' ⟨rfl,x',h1,h2⟩;exact⟨rfl,x',_,h1,h2,Zh _,rfl⟩
    clear hrun5 hB5 hrd5 hg5 hbx2 hbt2 htl2 hbl2' hrw5 hf5 hat5 hG2 hfr2 hat2 hrw2 hbl2 HFD;go_wp2_with fail;refine Xg 98 7 _ ?_;refine Ub (by kernel_rfl) [0,1,2,3,4,5,6] 8 (by kernel_rfl) (by decide) 7 rfl rfl (rgV [.pointer (some ⟨t.tb,0,none⟩),.pointer (some ⟨t.tb,0,none⟩),.pointer (some ⟨t.tb,1,none⟩),.pointer (some ⟨t.rb,0,none⟩),.pointer (some ⟨bx,5,none⟩),.string ⟨s.toArray⟩,.slice (some ⟨g5,0,none⟩) n cap]) 6 (by decide) (λbb V=>R14 w2.drew w5 bb V) rfl (rfl) ?_ ?_
    ·intro i o hi ho bb vals W hvl hbb hR qh K hK;obtain⟨x0,x1,x2,x3,x4,x5,x6,x7,rfl⟩:=lsl8 vals hvl;unfold Xe;simp only[ZA,ZI,ZB,ZJ,ZF,Zr];have hcase:i=0∨i=1∨i=2∨i=3∨i=4∨i=5∨i=6:=by omega
     rcases hcase with rfl|rfl|rfl|rfl|rfl|rfl|rfl<;>obtain rfl:=Zv ho<;>clear ho hvl
     ·clear qh;go_wp2_with (fail)
      exact hK _ _ (XB rfl) (by cases bb<;>exact hR) (λ_ _ h=>h)
     ·obtain rfl:x0=_:=qh ⟨0,.data⟩ (by simp) _ rfl;clear qh;go_wp2_with (fail)
      exact hK _ _ (XB rfl) (by cases bb<;>exact hR) (λ_ _ h=>h)
     ·obtain rfl:x1=_:=qh ⟨1,.data⟩ (by simp) _ rfl;clear qh;go_wp2_with (fail)
      exact hK _ _ (XB rfl) (by cases bb<;>exact hR) (λ_ _ h=>h)
     ·obtain rfl:x2=_:=qh ⟨2,.data⟩ (by simp) _ rfl;clear qh;have q0:W.cell? ⟨t.tb,1,none⟩=some (.pointer (some ⟨t.rb,0,none⟩)):=(HQ4.o bb W hR).1;go_wp2_with (fail)
      exact hK _ _ (XB rfl) (by cases bb<;>exact hR) (λ_ _ h=>h)
     ·clear qh;go_wp2_with (fail)
      exact hK _ _ (XB rfl) (by cases bb<;>exact hR) (λ_ _ h=>h)
     ·obtain rfl:x4=_:=qh ⟨4,.data⟩ (by simp) _ rfl;clear qh;have q0:W.cell? ⟨bx,5,none⟩=some (.string ⟨s.toArray⟩):=(HQ4.o bb W hR).2;go_wp2_with (fail)
      exact hK _ _ (XB rfl) (by cases bb<;>exact hR) (λ_ _ h=>h)
     ·obtain rfl:x5=_:=qh ⟨5,.data⟩ (by simp) _ rfl;clear qh;obtain rfl:=hbb rfl;have hWe:W=w2.drew:=hR;subst hWe;have hrun5:=HRUN.o;go_wp2_with fail;exact hK (.slice (some ⟨g5,0,none⟩) n cap) _ (XB rfl) (rfl) (λ_ _ h=>h)
    ·intro o ho vals W hvl hR qh K hK;obtain⟨x0,x1,x2,x3,x4,x5,x6,x7,rfl⟩:=lsl8 vals hvl;obtain rfl:=Zv ho;clear ho hvl;unfold Xe;simp only[ZA,ZI,ZB,ZJ,ZF,Zr];obtain rfl:x0=_:=qh 0 (by omega) _ rfl;obtain rfl:x1=_:=qh 1 (by omega) _ rfl;obtain rfl:x2=_:=qh 2 (by omega) _ rfl;obtain rfl:x3=_:=qh 3 (by omega) _ rfl;obtain rfl:x4=_:=qh 4 (by omega) _ rfl;obtain rfl:x5=_:=qh 5 (by omega) _ rfl;obtain rfl:x6=_:=qh 6 (by omega) _ rfl;clear qh;have hWe:W=w5:=hR;subst hWe;clear HRUN HQ4;go_wp2_with (go_at_call 28;refine HRF.o.mono ?_;rintro e w6 ⟨rfl,c',hr6,hs6⟩;obtain⟨qb,hbk⟩:=HFIN.o w6 c' hr6 hs6;replace hbk:=Zc hbk;clear hr6 hs6)
     refine hbk.out.mono ?_;rintro e w7 ⟨rfl,x',t',h1,h2,h3,h4⟩;have HP:=Zc (Zd h1 (Zd h2 (Zd h3 h4)));clear h1 h2 h3 h4 hbk;go_wp2_with fail;go_ret;exact⟨rfl,x',t',HP.o.1,HP.o.2.1,HP.o.2.2.1,λ_=>HP.o.2.2.2,λe=>by simp at e,λe=>by simp at e⟩
theorem Un (h:LW w wb x (Ta++t::Tb))(hok:Ok x)(hts:(Ta++t::Tb).length≤1000000000)(o:Opr)(ho:OpOk o)(hpk:pick o.on (Ta++t::Tb).length=Ta.length)(hk:o.kind=4∨o.kind=5∨o.kind=6∨o.kind=7∨o.kind=9)(HA:Hid (∀W,LW W wb x (Ta++t::Tb)→Calls prog 14 #[.pointer (some ⟨wb,0,none⟩),.pointer (some ⟨t.tb,0,none⟩),.agg o.cells.toArray] W λe w'=>e=.returned (.bool true)∧Zan w' wb x Ta t Tb o)):
  Calls prog 12 #[.pointer (some ⟨wb,0,none⟩),.agg o.cells.toArray] w λe w'=>e=.returned (.bool true)∧Zan w' wb x Ta t Tb o:=by
 obtain⟨W0,hW0⟩:=Za (w.alloc (.cells o.cells.toArray 43));obtain⟨bx,hbx⟩:=Za (w.heap.size);have hB0:Below w.heap.size w W0:=by rw[←hW0];exact(Zm _ w).alloc (Zh _) _
 have hxb:W0.heap[bx]?=some (.cells o.cells.toArray 43):=by rw[←hW0,YX,Zg hbx.symm]
 obtain⟨kd,on,a,b,c,s⟩:=o;simp only at hk hpk;have HKD:=Zc hk;have hk1:(kd==1)=false:=by rcases hk with rfl|rfl|rfl|rfl|rfl<;>rfl
 have hk2:¬kd=1:=by rcases hk with rfl|rfl|rfl|rfl|rfl<;>decide
 obtain⟨q0,q1,q2,-,-,q5⟩:=XJ hxb;have hbl:bx<W0.heap.size:=(Ze.1 hxb).1;have h0:=h.below hB0;have hnx:¬VS wb x bx:=λe=>by have:=h.vc.lt _ e;omega
 obtain⟨gi,ci,hvi,hgi,hgl⟩:=h0.pt;obtain⟨c0,-,-,-,-,-,-,-,hwl⟩:=h0.vc.cells;have ho1:=ho.o1;have ho2:=ho.o2;obtain⟨q,hq⟩:=Za ((Ta++t::Tb).length);obtain⟨k,hkk⟩:=Za (Ta.length);have hkq:k<q:=by rw[←hq,←hkk,Zf,Zu];omega
 have hq0:¬(q:Int)=0:=by omega
 have hq1:((q:Int)==0)=false:=by simpa using hq0
 have HPK:Hid (∀W,Calls prog 25 #[.int .i64 on,.int .i64 (q:Nat)] W λe w'=>e=.returned (.int .i64 (k:Nat))∧w'=W):=λW=>by have:=Us on (q:Nat) W ho1 ho2 (by omega) (by omega);rw[Yz,←hq,hpk,hkk,hq] at this;exact this
 rw[hvi,hq] at c0;rw[hkk] at hgi;rw[hq] at hts;have hnt:¬TnS t bx:=λe=>by have:=(h.tn t (by simp)).lt _ e;omega
 have HX0:=Zc (Zd h0 (Zd hxb (Zd hnx (Zd hok hnt))));have j1:(k:Int)<(q:Int):=by omega
 have j2:(0:Int)≤(k:Int):=by omega
 have j3:k≤1000000000:=by omega
 clear h hB0 hxb h0 hnx hok hnt hpk hvi hq hkk ho ho1 ho2;go_enter func12,ntmps12;go_wp2_with fail;clear hW0;refine Xg 70 13 _ ?_;refine Xp (by kernel_rfl) [0,1,2,3,4,5,6,7,8,9,10,11,12,13] 14 (by kernel_rfl) (by decide) 14 rfl rfl (rgD W0.heap.size (λ_=>False) [.val (.pointer (some ⟨wb,0,none⟩)),.val (.pointer (some ⟨wb,0,none⟩)),.val (.pointer (some ⟨wb,0,none⟩)),.val (.slice (some ⟨gi,0,none⟩) q ci),.val (.pointer (some ⟨bx,1,none⟩)),.val (.int .i64 on),.val (.pointer (some ⟨wb,0,none⟩)),.val (.pointer (some ⟨wb,0,none⟩)),.val (.pointer (some ⟨wb,0,none⟩)),.val (.slice (some ⟨gi,0,none⟩) q ci),.val (.int .i64 (q:Nat)),.val (.int .i64 (k:Nat)),.val (.pointer (some ⟨gi,k,none⟩)),.val (.pointer (some ⟨t.tb,0,none⟩))]) (Below W0.heap.size W0) rfl ⟨rfl,rfl,rfl,Zh _,λ_ _=>rfl⟩ ?_ ?_
 ·intro i o hi ho vals W hvl hR qh K hK;obtain⟨x0,x1,x2,x3,x4,x5,x6,x7,x8,x9,x10,x11,x12,x13,rfl⟩:=Zax vals hvl;unfold Xe;simp only[ZA,ZI,ZB,ZJ,ZF,Zr];have qa0:=(hR.cell (p:=⟨wb,0,none⟩) hwl).trans c0;have qa1:=(hR.cell (p:=⟨bx,1,none⟩) hbl).trans q1;have qa2:=(hR.cell (p:=⟨gi,k,none⟩) hgl).trans hgi;have hcase:i=11∨i=12∨i=0∨i=1∨i=2∨i=3∨i=4∨i=5∨i=6∨i=7∨i=8∨i=9∨i=10∨i=13:=by omega
  rcases hcase with rfl|rfl|rfl|rfl|rfl|rfl|rfl|rfl|rfl|rfl|rfl|rfl|rfl|rfl<;>obtain rfl:=Zv ho<;>clear ho hvl
  ·obtain⟨rfl,rfl,-⟩:=Xi qh;clear qh;go_wp2_with (go_at_call 25;refine(HPK.o W).mono (Zb ?_))
   exact hK (.int .i64 (k:Nat)) _ (Xh rfl rfl) hR (λ_ _ h=>h)
  ·obtain⟨rfl,rfl,-⟩:=Xi qh;clear qh;go_wp2_with fail;exact hK _ _ (Xh rfl rfl) hR (λ_ _ h=>h)
  all_goals (have d:=Xi qh;clear qh;try (obtain⟨rfl,-⟩:=d);go_wp2_with fail;exact hK _ _ (Xh rfl rfl) hR (λ_ _ h=>h))
 ·intro o ho vals W9 hvl hR qh K hK;obtain⟨x0,x1,x2,x3,x4,x5,x6,x7,x8,x9,x10,x11,x12,x13,rfl⟩:=Zax vals hvl;obtain rfl:=Zv ho;clear ho hvl;unfold Xe;simp only[ZA,ZI,ZB,ZJ,ZF,Zr];obtain⟨rfl,rfl,rfl,rfl,rfl,rfl,rfl,rfl,rfl,rfl,rfl,rfl,rfl,rfl,-⟩:=Ve qh;clear qh;have hw1:=HX0.o.1.below hR;have hxW:W9.heap[bx]?=_:=(hR.block bx hbl).trans HX0.o.2.1;obtain⟨q0,q1,q2,-,-,q5⟩:=XJ hxW;have hbW:bx<W9.heap.size:=(Ze.1 hxW).1;obtain⟨d0,d1,-,-⟩:=(hw1.tn t (by simp)).cells;clear c0 hgi HPK hR;have HA9:=Zc (HA.o W9 hw1);obtain⟨-,-,-,p3,p4,-⟩:=XJ hxW;clear HA hw1 hxW d0 d1;rcases HKD.o with rfl|rfl|rfl|rfl|rfl;all_goals
   go_wp2_with fail;refine HA9.o.mono ?_;rintro e w7 ⟨rfl,hP⟩;have HP:=Zc hP;clear hP HA9;go_wp2_with fail;go_ret;exact⟨rfl,HP.o⟩
theorem Zhl (h:LW w wb x (Ta++t::Tb))(hok:Ok x)(hts:(Ta++t::Tb).length≤1000000000)(o:Opr)(ho:OpOk o)(hpk:pick o.on (Ta++t::Tb).length=Ta.length)(hk:o.kind<1∨9<o.kind):
  Calls prog 12 #[.pointer (some ⟨wb,0,none⟩),.agg o.cells.toArray] w λe w'=>e=.returned (.bool true)∧Zan w' wb x Ta t Tb o:=by
 obtain⟨W0,hW0⟩:=Za (w.alloc (.cells o.cells.toArray 43));obtain⟨bx,hbx⟩:=Za (w.heap.size);have hB0:Below w.heap.size w W0:=by rw[←hW0];exact(Zm _ w).alloc (Zh _) _
 have hxb:W0.heap[bx]?=some (.cells o.cells.toArray 43):=by rw[←hW0,YX,Zg hbx.symm]
 obtain⟨kd,on,a,b,c,s⟩:=o;simp only at hk hpk;have k1:(kd==1)=false:=by simp;omega
 have m1:¬kd=1:=by omega
 have k2:(kd==2)=false:=by simp;omega
 have m2:¬kd=2:=by omega
 have k3:(kd==3)=false:=by simp;omega
 have m3:¬kd=3:=by omega
 have k4:(kd==4)=false:=by simp;omega
 have m4:¬kd=4:=by omega
 have k5:(kd==5)=false:=by simp;omega
 have m5:¬kd=5:=by omega
 have k6:(kd==6)=false:=by simp;omega
 have m6:¬kd=6:=by omega
 have k7:(kd==7)=false:=by simp;omega
 have m7:¬kd=7:=by omega
 have k8:(kd==8)=false:=by simp;omega
 have m8:¬kd=8:=by omega
 have k9:(kd==9)=false:=by simp;omega
 have m9:¬kd=9:=by omega
 obtain⟨q0,q1,q2,-,-,q5⟩:=XJ hxb;have hbl:bx<W0.heap.size:=(Ze.1 hxb).1;have h0:=h.below hB0;have hnx:¬VS wb x bx:=λe=>by have:=h.vc.lt _ e;omega
 obtain⟨gi,ci,hvi,hgi,hgl⟩:=h0.pt;obtain⟨c0,-,-,-,-,-,-,-,hwl⟩:=h0.vc.cells;have ho1:=ho.o1;have ho2:=ho.o2;obtain⟨q,hq⟩:=Za ((Ta++t::Tb).length);obtain⟨k,hkk⟩:=Za (Ta.length);have hkq:k<q:=by rw[←hq,←hkk,Zf,Zu];omega
 have hq0:¬(q:Int)=0:=by omega
 have hq1:((q:Int)==0)=false:=by simpa using hq0
 have HPK:Hid (∀W,Calls prog 25 #[.int .i64 on,.int .i64 (q:Nat)] W λe w'=>e=.returned (.int .i64 (k:Nat))∧w'=W):=λW=>by have:=Us on (q:Nat) W ho1 ho2 (by omega) (by omega);rw[Yz,←hq,hpk,hkk,hq] at this;exact this
 rw[hvi,hq] at c0;rw[hkk] at hgi;rw[hq] at hts;have hnt:¬TnS t bx:=λe=>by have:=(h.tn t (by simp)).lt _ e;omega
 have HX0:=Zc (Zd h0 (Zd hxb (Zd hnx (Zd hok hnt))));have j1:(k:Int)<(q:Int):=by omega
 have j2:(0:Int)≤(k:Int):=by omega
 have j3:k≤1000000000:=by omega
 clear h hB0 hxb h0 hnx hok hnt hpk hvi hq hkk ho ho1 ho2;go_enter func12,ntmps12;go_wp2_with fail;clear hW0;refine Xg 70 13 _ ?_;refine Xp (by kernel_rfl) [0,1,2,3,4,5,6,7,8,9,10,11,12,13] 14 (by kernel_rfl) (by decide) 14 rfl rfl (rgD W0.heap.size (λ_=>False) [.val (.pointer (some ⟨wb,0,none⟩)),.val (.pointer (some ⟨wb,0,none⟩)),.val (.pointer (some ⟨wb,0,none⟩)),.val (.slice (some ⟨gi,0,none⟩) q ci),.val (.pointer (some ⟨bx,1,none⟩)),.val (.int .i64 on),.val (.pointer (some ⟨wb,0,none⟩)),.val (.pointer (some ⟨wb,0,none⟩)),.val (.pointer (some ⟨wb,0,none⟩)),.val (.slice (some ⟨gi,0,none⟩) q ci),.val (.int .i64 (q:Nat)),.val (.int .i64 (k:Nat)),.val (.pointer (some ⟨gi,k,none⟩)),.val (.pointer (some ⟨t.tb,0,none⟩))]) (Below W0.heap.size W0) rfl ⟨rfl,rfl,rfl,Zh _,λ_ _=>rfl⟩ ?_ ?_
 ·intro i o hi ho vals W hvl hR qh K hK;obtain⟨x0,x1,x2,x3,x4,x5,x6,x7,x8,x9,x10,x11,x12,x13,rfl⟩:=Zax vals hvl;unfold Xe;simp only[ZA,ZI,ZB,ZJ,ZF,Zr];have qa0:=(hR.cell (p:=⟨wb,0,none⟩) hwl).trans c0;have qa1:=(hR.cell (p:=⟨bx,1,none⟩) hbl).trans q1;have qa2:=(hR.cell (p:=⟨gi,k,none⟩) hgl).trans hgi;have hcase:i=11∨i=12∨i=0∨i=1∨i=2∨i=3∨i=4∨i=5∨i=6∨i=7∨i=8∨i=9∨i=10∨i=13:=by omega
  rcases hcase with rfl|rfl|rfl|rfl|rfl|rfl|rfl|rfl|rfl|rfl|rfl|rfl|rfl|rfl<;>obtain rfl:=Zv ho<;>clear ho hvl
  ·obtain⟨rfl,rfl,-⟩:=Xi qh;clear qh;go_wp2_with (go_at_call 25;refine(HPK.o W).mono (Zb ?_))
   exact hK (.int .i64 (k:Nat)) _ (Xh rfl rfl) hR (λ_ _ h=>h)
  ·obtain⟨rfl,rfl,-⟩:=Xi qh;clear qh;go_wp2_with fail;exact hK _ _ (Xh rfl rfl) hR (λ_ _ h=>h)
  all_goals (have d:=Xi qh;clear qh;try (obtain⟨rfl,-⟩:=d);go_wp2_with fail;exact hK _ _ (Xh rfl rfl) hR (λ_ _ h=>h))
 ·intro o ho vals W9 hvl hR qh K hK;obtain⟨x0,x1,x2,x3,x4,x5,x6,x7,x8,x9,x10,x11,x12,x13,rfl⟩:=Zax vals hvl;obtain rfl:=Zv ho;clear ho hvl;unfold Xe;simp only[ZA,ZI,ZB,ZJ,ZF,Zr];obtain⟨rfl,rfl,rfl,rfl,rfl,rfl,rfl,rfl,rfl,rfl,rfl,rfl,rfl,rfl,-⟩:=Ve qh;clear qh;have hw1:=HX0.o.1.below hR;have hxW:W9.heap[bx]?=_:=(hR.block bx hbl).trans HX0.o.2.1;obtain⟨q0,q1,q2,-,-,q5⟩:=XJ hxW;have hbW:bx<W9.heap.size:=(Ze.1 hxW).1;obtain⟨d0,d1,-,-⟩:=(hw1.tn t (by simp)).cells;clear c0 hgi HPK hR;have HW9:=Zc (Zd hw1 hk);clear hw1 hxW d0 d1 hk;go_wp2_with fail;go_ret;refine⟨rfl,x,t,HW9.o.1,Vz.refl _ _,ZM _ _,λe => ?_,λe => ?_,λe => ?_⟩;all_goals
   simp only at e;have:=HW9.o.2;omega
theorem Zhy (h:LW w wb x [])(o:Opr)(hk:¬o.kind=1):
  Calls prog 12 #[.pointer (some ⟨wb,0,none⟩),.agg o.cells.toArray] w λe w'=>e=.returned (.bool true)∧LW w' wb x []:=by
 obtain⟨W0,hW0⟩:=Za (w.alloc (.cells o.cells.toArray 43));obtain⟨bx,hbx⟩:=Za (w.heap.size);have hB0:Below w.heap.size w W0:=by rw[←hW0];exact(Zm _ w).alloc (Zh _) _
 have hxb:W0.heap[bx]?=some (.cells o.cells.toArray 43):=by rw[←hW0,YX,Zg hbx.symm]
 obtain⟨kd,on,a,b,c,s⟩:=o;simp only at hk;have hk1:(kd==1)=false:=by simpa using hk
 obtain⟨q0,q1,q2,-,-,q5⟩:=XJ hxb;have h0:=h.below hB0;obtain⟨c0,-,-,-,-,-,-,-,hwl⟩:=h0.vc.cells;obtain⟨rva,cva,hva,-,-⟩:=Xf h0.vc.ral;have hl:x.ts.length=0:=by rw[h0.tsx];rfl
 rw[hl] at hva;rw[hva] at c0;have H0:=Zc h0;clear h hB0 hxb h0 hva hl;go_enter func12,ntmps12;go_wp2_with fail;go_ret;exact⟨rfl,H0.o⟩
def R17 (W:World)(b:Nat)(G:Nat→Prop)(st:St):Bool→World→Prop
 | true,V=>AtR V b G st∧Fr G W V
 | false,V=>V=W
def R18 (W:World)(b:Nat)(c:Rc)(st:St)(F tk:Nat):Bool→World→Prop
 | true,V=>∃c',RW V b c' st F tk∧RStg W V b c c'
 | false,V=>V=W
theorem R17.cell {b:Nat}{G:Nat→Prop}{st:St}(h:R17 W b G st bb V){p:Addr}{v:Value}(hp:W.cell? p=some v)(hl:p.block<W.heap.size)(hG:¬G p.block):V.cell? p=some v:=by
 cases bb with
 | false=>have e:V=W:=h;rw[e];exact hp
 | true=>exact(YC (h.2.block _ hl hG)).trans hp
theorem R18.cell {b:Nat}{c:Rc}{st:St}{F tk:Nat}(h:R18 W b c st F tk bb V){p:Addr}{v:Value}(hp:W.cell? p=some v)(hl:p.block<W.heap.size)(hG:¬RG b c p.block):V.cell? p=some v:=by
 cases bb with
 | false=>have e:V=W:=h;rw[e];exact hp
 | true=>obtain⟨c',-,h2⟩:=h;exact(YC (h2.fr.block _ hl hG)).trans hp
theorem Zif (h:LW w wb x (Ta++t::Tb))(hok:Ok x)(hts:(Ta++t::Tb).length≤1000000000)(o:Opr)(ho:OpOk o)(hpk:pick o.on (Ta++t::Tb).length=Ta.length)(hk:o.kind=3):
  Calls prog 12 #[.pointer (some ⟨wb,0,none⟩),.agg o.cells.toArray] w λe w'=>e=.returned (.bool true)∧Zan w' wb x Ta t Tb o:=by
 obtain⟨W0,hW0⟩:=Za (w.alloc (.cells o.cells.toArray 43));obtain⟨bx,hbx⟩:=Za (w.heap.size);have hB0:Below w.heap.size w W0:=by rw[←hW0];exact(Zm _ w).alloc (Zh _) _
 have hxb:W0.heap[bx]?=some (.cells o.cells.toArray 43):=by rw[←hW0,YX,Zg hbx.symm]
 obtain⟨kd,on,a,b,c,s⟩:=o;have ha1:=ho.a1;have ha2:=ho.a2;simp only at hk hpk ha1 ha2;subst hk;obtain⟨q0,q1,q2,-,-,q5⟩:=XJ hxb;have hbl:bx<W0.heap.size:=(Ze.1 hxb).1;have h0:=h.below hB0;have hnx:¬VS wb x bx:=λe=>by have:=h.vc.lt _ e;omega
 obtain⟨gi,ci,hvi,hgi,hgl⟩:=h0.pt;obtain⟨c0,-,-,-,-,-,-,-,hwl⟩:=h0.vc.cells;have ho1:=ho.o1;have ho2:=ho.o2;obtain⟨q,hq⟩:=Za ((Ta++t::Tb).length);obtain⟨k,hkk⟩:=Za (Ta.length);have hkq:k<q:=by rw[←hq,←hkk,Zf,Zu];omega
 have hq0:¬(q:Int)=0:=by omega
 have hq1:((q:Int)==0)=false:=by simpa using hq0
 have HPK:Hid (∀W,Calls prog 25 #[.int .i64 on,.int .i64 (q:Nat)] W λe w'=>e=.returned (.int .i64 (k:Nat))∧w'=W):=λW=>by have:=Us on (q:Nat) W ho1 ho2 (by omega) (by omega);rw[Yz,←hq,hpk,hkk,hq] at this;exact this
 rw[hvi,hq] at c0;rw[hkk] at hgi;rw[hq] at hts;have hnt:¬TnS t bx:=λe=>by have:=(h.tn t (by simp)).lt _ e;omega
 have HX0:=Zc (Zd h0 (Zd hxb (Zd hnx (Zd hok hnt))));have j1:(k:Int)<(q:Int):=by omega
 have j2:(0:Int)≤(k:Int):=by omega
 have j3:k≤1000000000:=by omega
 obtain⟨er,st',HT1,HT2⟩:∃(er:Int) (st':St),Hid (∀W,AtR W t.bx t.G t.st→Calls prog 30 #[.pointer (some ⟨t.bx,0,none⟩),.int .i64 a] W λe w'=>e=.returned (.int .i64 er)∧AtR w' t.bx t.G st'∧Fr t.G W w')∧Hid (∀W,RW W t.rb t.c t.st t.F t.tk→Calls prog 31 #[.pointer (some ⟨t.rb,0,none⟩),.int .i64 a] W λe w'=>e=.returned (.int .i64 er)∧∃c',RW w' t.rb c' st' t.F t.tk∧RStg W w' t.rb t.c c'):=by
  by_cases hbad:a<0∨1000000<a
  ·refine⟨1,t.st,λW hat=>(tick_bad W t.bx a hbad).mono ?_,λW hrw=>(Zkw W t.rb a hbad).mono ?_⟩
   ·rintro e w' ⟨rfl,rfl⟩;exact⟨rfl,hat,Fr.refl _ _⟩
   ·rintro e w' ⟨rfl,rfl⟩;exact⟨rfl,_,hrw,RStg.refl _ _ _⟩
  ·exact⟨0,t.st.tick a.toNat,λW hat=>the_api.tick t.bx t.G t.st a W hat (by omega) (by omega),λW hrw=>Zkn hrw a (by omega) (by omega)⟩
 clear ha1 ha2;clear h hB0 hxb h0 hnx hok hnt hpk hvi hq hkk ho ho1 ho2;go_enter func12,ntmps12;go_wp2_with fail;clear hW0;refine Xg 70 13 _ ?_;refine Xp (by kernel_rfl) [0,1,2,3,4,5,6,7,8,9,10,11,12,13] 14 (by kernel_rfl) (by decide) 14 rfl rfl (rgD W0.heap.size (λ_=>False) [.val (.pointer (some ⟨wb,0,none⟩)),.val (.pointer (some ⟨wb,0,none⟩)),.val (.pointer (some ⟨wb,0,none⟩)),.val (.slice (some ⟨gi,0,none⟩) q ci),.val (.pointer (some ⟨bx,1,none⟩)),.val (.int .i64 on),.val (.pointer (some ⟨wb,0,none⟩)),.val (.pointer (some ⟨wb,0,none⟩)),.val (.pointer (some ⟨wb,0,none⟩)),.val (.slice (some ⟨gi,0,none⟩) q ci),.val (.int .i64 (q:Nat)),.val (.int .i64 (k:Nat)),.val (.pointer (some ⟨gi,k,none⟩)),.val (.pointer (some ⟨t.tb,0,none⟩))]) (Below W0.heap.size W0) rfl ⟨rfl,rfl,rfl,Zh _,λ_ _=>rfl⟩ ?_ ?_
 ·intro i o hi ho vals W hvl hR qh K hK;obtain⟨x0,x1,x2,x3,x4,x5,x6,x7,x8,x9,x10,x11,x12,x13,rfl⟩:=Zax vals hvl;unfold Xe;simp only[ZA,ZI,ZB,ZJ,ZF,Zr];have qa0:=(hR.cell (p:=⟨wb,0,none⟩) hwl).trans c0;have qa1:=(hR.cell (p:=⟨bx,1,none⟩) hbl).trans q1;have qa2:=(hR.cell (p:=⟨gi,k,none⟩) hgl).trans hgi;have hcase:i=11∨i=12∨i=0∨i=1∨i=2∨i=3∨i=4∨i=5∨i=6∨i=7∨i=8∨i=9∨i=10∨i=13:=by omega
  rcases hcase with rfl|rfl|rfl|rfl|rfl|rfl|rfl|rfl|rfl|rfl|rfl|rfl|rfl|rfl<;>obtain rfl:=Zv ho<;>clear ho hvl
  ·obtain⟨rfl,rfl,-⟩:=Xi qh;clear qh;go_wp2_with (go_at_call 25;refine(HPK.o W).mono (Zb ?_))
   exact hK (.int .i64 (k:Nat)) _ (Xh rfl rfl) hR (λ_ _ h=>h)
  ·obtain⟨rfl,rfl,-⟩:=Xi qh;clear qh;go_wp2_with fail;exact hK _ _ (Xh rfl rfl) hR (λ_ _ h=>h)
  all_goals (have d:=Xi qh;clear qh;try (obtain⟨rfl,-⟩:=d);go_wp2_with fail;exact hK _ _ (Xh rfl rfl) hR (λ_ _ h=>h))
 ·intro o ho vals W9 hvl hR qh K hK;obtain⟨x0,x1,x2,x3,x4,x5,x6,x7,x8,x9,x10,x11,x12,x13,rfl⟩:=Zax vals hvl;obtain rfl:=Zv ho;clear ho hvl;unfold Xe;simp only[ZA,ZI,ZB,ZJ,ZF,Zr];obtain⟨rfl,rfl,rfl,rfl,rfl,rfl,rfl,rfl,rfl,rfl,rfl,rfl,rfl,rfl,-⟩:=Ve qh;clear qh;have hw1:=HX0.o.1.below hR;have hxW:W9.heap[bx]?=_:=(hR.block bx hbl).trans HX0.o.2.1;obtain⟨q0,q1,q2,-,-,q5⟩:=XJ hxW;have hbW:bx<W9.heap.size:=(Ze.1 hxW).1;obtain⟨d0,d1,-,-⟩:=(hw1.tn t (by simp)).cells;clear c0 hgi HPK hR;have hw9d:LW W9.drew wb x (Ta++t::Tb):=hw1.below (XX W9 1);have ht9:=hw9d.tn t (by simp);have HL9:=Zc (Zd hw9d ht9);have HD:Hid (W9.drew.cell? ⟨t.tb,0,none⟩=some (.pointer (some ⟨t.bx,0,none⟩))∧W9.drew.cell? ⟨bx,2,none⟩=some (.int .i64 a)∧t.tb<W9.drew.heap.size∧¬t.G t.tb∧bx<W9.drew.heap.size∧¬t.G bx):=⟨d0,q2,ht9.tbl,ht9.tg,hbW,λe=>HX0.o.2.2.2.2 (.inr (.inl e))⟩;have HXW:=Zc hxW;clear hw1 hw9d ht9 d0 d1 hxW;go_wp2_with fail;refine Xg 112 6 _ ?_;refine Ub (by kernel_rfl) [0,1,2,3,4,5,6] 7 (by kernel_rfl) (by decide) 7 rfl rfl (rgV [.pointer (some ⟨t.tb,0,none⟩),.pointer (some ⟨t.tb,0,none⟩),.pointer (some ⟨t.tb,0,none⟩),.pointer (some ⟨t.bx,0,none⟩),.pointer (some ⟨bx,2,none⟩),.int .i64 a,.int .i64 er]) 6 (by decide) (λbb V=>R17 W9.drew t.bx t.G st' bb V) rfl (rfl) ?_ ?_
  ·intro i o hi ho bb vals W hvl hbb hR qh K hK;obtain⟨x0,x1,x2,x3,x4,x5,x6,rfl⟩:=lsl7 vals hvl;unfold Xe;simp only[ZA,ZI,ZB,ZJ,ZF,Zr];have hcase:i=0∨i=1∨i=2∨i=3∨i=4∨i=5∨i=6:=by omega
   rcases hcase with rfl|rfl|rfl|rfl|rfl|rfl|rfl<;>obtain rfl:=Zv ho<;>clear ho hvl
   ·clear qh;go_wp2_with (fail)
    exact hK _ _ (XB rfl) (by cases bb<;>exact hR) (λ_ _ h=>h)
   ·obtain rfl:x0=_:=qh ⟨0,.data⟩ (by simp) _ rfl;clear qh;go_wp2_with (fail)
    exact hK _ _ (XB rfl) (by cases bb<;>exact hR) (λ_ _ h=>h)
   ·obtain rfl:x1=_:=qh ⟨1,.data⟩ (by simp) _ rfl;clear qh;go_wp2_with (fail)
    exact hK _ _ (XB rfl) (by cases bb<;>exact hR) (λ_ _ h=>h)
   ·obtain rfl:x2=_:=qh ⟨2,.data⟩ (by simp) _ rfl;clear qh;have q0:W.cell? ⟨t.tb,0,none⟩=some (.pointer (some ⟨t.bx,0,none⟩)):=R17.cell hR HD.o.1 HD.o.2.2.1 HD.o.2.2.2.1;go_wp2_with (fail)
    exact hK _ _ (XB rfl) (by cases bb<;>exact hR) (λ_ _ h=>h)
   ·clear qh;go_wp2_with (fail)
    exact hK _ _ (XB rfl) (by cases bb<;>exact hR) (λ_ _ h=>h)
   ·obtain rfl:x4=_:=qh ⟨4,.data⟩ (by simp) _ rfl;clear qh;have q0:W.cell? ⟨bx,2,none⟩=some (.int .i64 a):=R17.cell hR HD.o.2.1 HD.o.2.2.2.2.1 HD.o.2.2.2.2.2;go_wp2_with (fail)
    exact hK _ _ (XB rfl) (by cases bb<;>exact hR) (λ_ _ h=>h)
   ·obtain rfl:x3=_:=qh ⟨3,.data⟩ (by simp) _ rfl;obtain rfl:x5=_:=qh ⟨5,.data⟩ (by simp) _ rfl;clear qh;obtain rfl:=hbb rfl;have hWe:W=W9.drew:=hR;subst hWe;go_wp2_with (go_at_call 30;refine(HT1.o W9.drew HL9.o.2.at_).mono ?_;rintro e w' ⟨rfl,hat,hfr⟩)
    exact hK (.int .i64 er) _ (XB rfl) (⟨hat,hfr⟩) (λ_ _ h=>h)
  ·intro o ho vals V hvl hR qh K hK;obtain⟨x0,x1,x2,x3,x4,x5,x6,rfl⟩:=lsl7 vals hvl;obtain rfl:=Zv ho;clear ho hvl;unfold Xe;simp only[ZA,ZI,ZB,ZJ,ZF,Zr];obtain rfl:x0=_:=qh 0 (by omega) _ rfl;obtain rfl:x1=_:=qh 1 (by omega) _ rfl;obtain rfl:x2=_:=qh 2 (by omega) _ rfl;obtain rfl:x3=_:=qh 3 (by omega) _ rfl;obtain rfl:x4=_:=qh 4 (by omega) _ rfl;obtain rfl:x5=_:=qh 5 (by omega) _ rfl;obtain rfl:x6=_:=qh 6 (by omega) _ rfl;clear qh;obtain⟨hatV,hfrV⟩:AtR V t.bx t.G st'∧Fr t.G W9.drew V:=hR;obtain⟨hrwV,hblV⟩:=HL9.o.2.half hfrV;have hbxV:V.heap[bx]?=_:=(hfrV.block bx hbW HD.o.2.2.2.2.2).trans HXW.o;have htV:=hblV.trans HL9.o.2.blk;have HE:Hid (V.drew.cell? ⟨t.tb,1,none⟩=some (.pointer (some ⟨t.rb,0,none⟩))∧V.drew.cell? ⟨bx,2,none⟩=some (.int .i64 a)∧t.tb<V.drew.heap.size∧¬RG t.rb t.c t.tb∧bx<V.drew.heap.size∧¬RG t.rb t.c bx):=⟨Zk V t.tb 1 _ _ (0,0) htV,(XJ hbxV).2.2.1,(Ze.1 htV).1,HL9.o.2.tr,(Ze.1 hbxV).1,λe=>HX0.o.2.2.2.2 (.inr (.inr (.inl e)))⟩;have HV:Hid (AtR V.drew t.bx t.G st'∧Fr t.G W9.drew V.drew∧RW V.drew t.rb t.c t.st t.F t.tk):=⟨the_api.keep hatV (λ_ _=>rfl),hfrV.trans (Fr.drew _ V) (λ_ _ e=>e),hrwV.keep (λ_ _=>rfl)⟩;clear hatV hfrV hrwV hblV hbxV htV HD HT1 q0 q1 q2 q5;go_wp2_with fail;refine Xg 119 9 _ ?_;refine Ub (by kernel_rfl) [0,1,2,3,4,5,6,7,8,9] 10 (by kernel_rfl) (by decide) 10 rfl rfl (rgV [.int .i64 er,.int .i64 er,.pointer (some ⟨t.tb,0,none⟩),.pointer (some ⟨t.tb,0,none⟩),.pointer (some ⟨t.tb,1,none⟩),.pointer (some ⟨t.rb,0,none⟩),.pointer (some ⟨bx,2,none⟩),.int .i64 a,.int .i64 er,.bool true]) 8 (by decide) (λbb V'=>R18 V.drew t.rb t.c st' t.F t.tk bb V') rfl (rfl) ?_ ?_
   ·intro i o hi ho bb vals W hvl hbb hR qh K hK;obtain⟨x0,x1,x2,x3,x4,x5,x6,x7,x8,x9,rfl⟩:=Zjs vals hvl;unfold Xe;simp only[ZA,ZI,ZB,ZJ,ZF,Zr];have hcase:i=0∨i=1∨i=2∨i=3∨i=4∨i=5∨i=6∨i=7∨i=8∨i=9:=by omega
    rcases hcase with rfl|rfl|rfl|rfl|rfl|rfl|rfl|rfl|rfl|rfl<;>obtain rfl:=Zv ho<;>clear ho hvl
    ·clear qh;go_wp2_with (fail)
     exact hK _ _ (XB rfl) (by cases bb<;>exact hR) (λ_ _ h=>h)
    ·obtain rfl:x0=_:=qh ⟨0,.data⟩ (by simp) _ rfl;clear qh;go_wp2_with (go_at_call 24;refine(Ul er _).mono (Zb ?_))
     exact hK _ _ (XB rfl) (by cases bb<;>exact hR) (λ_ _ h=>h)
    ·clear qh;go_wp2_with (fail)
     exact hK _ _ (XB rfl) (by cases bb<;>exact hR) (λ_ _ h=>h)
    ·obtain rfl:x2=_:=qh ⟨2,.data⟩ (by simp) _ rfl;clear qh;go_wp2_with (fail)
     exact hK _ _ (XB rfl) (by cases bb<;>exact hR) (λ_ _ h=>h)
    ·obtain rfl:x3=_:=qh ⟨3,.data⟩ (by simp) _ rfl;clear qh;go_wp2_with (fail)
     exact hK _ _ (XB rfl) (by cases bb<;>exact hR) (λ_ _ h=>h)
    ·obtain rfl:x4=_:=qh ⟨4,.data⟩ (by simp) _ rfl;clear qh;have q0:W.cell? ⟨t.tb,1,none⟩=some (.pointer (some ⟨t.rb,0,none⟩)):=R18.cell hR HE.o.1 HE.o.2.2.1 HE.o.2.2.2.1;go_wp2_with (fail)
     exact hK _ _ (XB rfl) (by cases bb<;>exact hR) (λ_ _ h=>h)
    ·clear qh;go_wp2_with (fail)
     exact hK _ _ (XB rfl) (by cases bb<;>exact hR) (λ_ _ h=>h)
    ·obtain rfl:x6=_:=qh ⟨6,.data⟩ (by simp) _ rfl;clear qh;have q0:W.cell? ⟨bx,2,none⟩=some (.int .i64 a):=R18.cell hR HE.o.2.1 HE.o.2.2.2.2.1 HE.o.2.2.2.2.2;go_wp2_with (fail)
     exact hK _ _ (XB rfl) (by cases bb<;>exact hR) (λ_ _ h=>h)
    ·obtain rfl:x5=_:=qh ⟨5,.data⟩ (by simp) _ rfl;obtain rfl:x7=_:=qh ⟨7,.data⟩ (by simp) _ rfl;clear qh;obtain rfl:=hbb rfl;have hWe:W=V.drew:=hR;subst hWe;go_wp2_with (go_at_call 31;refine(HT2.o V.drew HV.o.2.2).mono ?_;rintro e w' ⟨rfl,hP⟩)
     exact hK (.int .i64 er) _ (XB rfl) (hP) (λ_ _ h=>h)
    ·obtain rfl:x1=_:=qh ⟨1,.data⟩ (by simp) _ rfl;obtain rfl:x8=_:=qh ⟨8,.data⟩ (by simp) _ rfl;clear qh;go_wp2_with (fail)
     exact hK _ _ (XB rfl) (by cases bb<;>exact hR) (λ_ _ h=>h)
   ·intro o ho vals W hvl hR qh K hK;obtain⟨x0,x1,x2,x3,x4,x5,x6,x7,x8,x9,rfl⟩:=Zjs vals hvl;obtain rfl:=Zv ho;clear ho hvl;unfold Xe;simp only[ZA,ZI,ZB,ZJ,ZF,Zr];obtain rfl:x0=_:=qh 0 (by omega) _ rfl;obtain rfl:x1=_:=qh 1 (by omega) _ rfl;obtain rfl:x2=_:=qh 2 (by omega) _ rfl;obtain rfl:x3=_:=qh 3 (by omega) _ rfl;obtain rfl:x4=_:=qh 4 (by omega) _ rfl;obtain rfl:x5=_:=qh 5 (by omega) _ rfl;obtain rfl:x6=_:=qh 6 (by omega) _ rfl;obtain rfl:x7=_:=qh 7 (by omega) _ rfl;obtain rfl:x8=_:=qh 8 (by omega) _ rfl;obtain rfl:x9=_:=qh 9 (by omega) _ rfl;clear qh;obtain⟨c',hr6,hs6⟩:∃c',RW W t.rb c' st' t.F t.tk∧RStg V.drew W t.rb t.c c':=hR;obtain⟨hT,hFr,hSub⟩:=HL9.o.2.two HV.o.2.1 HV.o.1 (λ_ e=>.inl e) hr6 (Zh _) hs6;have HP:=Zc (HL9.o.1.twin (t':={t with c:=c',st:=st',F:=t.F,tk:=t.tk}) rfl hT hFr hSub);clear hr6 hs6 hT hFr hSub;go_wp2_with fail;go_ret;exact⟨rfl,x,_,HP.o,Vz.refl _ _,ZM _ _,λe=>by simp at e,λe=>by simp at e,λe=>by simp at e⟩
end
section
open Go.RowKit
theorem Zgg {α:Type}(l:List α)(i:Nat)(h:i<l.length):∃A t B,l=A++t::B∧A.length=i:=
 ⟨l.take i,l[i],l.drop (i+1),by rw[List.getElem_cons_drop,Yr],by rw[ZD];omega⟩
def Zbj :Prop:=∀ {w:World} {wb:Nat} {x:Vw} {Ta Tb:List Tn} {t:Tn},LW w wb x (Ta++t::Tb)→Ok x→t.F≤1600000→∀o:Opr,o.kind=9→o.s.length≤999999990→
  Calls prog 14 #[.pointer (some ⟨wb,0,none⟩),.pointer (some ⟨t.tb,0,none⟩),.agg o.cells.toArray] w λe w'=>e=.returned (.bool true)∧∃x' t',LW w' wb x' (Ta++t'::Tb)∧Vz x x' 2∧t'.F=t.F
theorem Zcf (h:LW w wb x (Ta++t::Tb))(hok:Ok x)(hts:(Ta++t::Tb).length≤1000000000)(o:Opr)(ho:OpOk o)(hpk:pick o.on (Ta++t::Tb).length=Ta.length)(hk:¬o.kind=1)(hF:t.F+o.s.length≤1600000)(hb:o.kind=9→Zbj):
  Calls prog 12 #[.pointer (some ⟨wb,0,none⟩),.agg o.cells.toArray] w λe w'=>e=.returned (.bool true)∧Zan w' wb x Ta t Tb o:=by
 by_cases h2:o.kind=2∨o.kind=8
 ·exact Zik h hok hts o ho hpk h2 hF
 by_cases h3:o.kind=3
 ·exact Zif h hok hts o ho hpk h3
 have n28:¬(o.kind=2∨o.kind=8):=h2;by_cases h4:o.kind=4
 ·refine Un h hok hts o ho hpk (.inl h4) (λW hW=>(QO hW hok (by omega) o h4).mono ?_);rintro e w' ⟨rfl,x',t',a1,a2,a3,a4⟩;exact⟨rfl,x',t',a1,a2.z.mono (by omega),by omega,λe=>absurd e n28,λ_=>a4,λe=>by omega⟩
 by_cases h5:o.kind=5
 ·refine Un h hok hts o ho hpk (.inr (.inl h5)) (λW hW=>(Zeb hW hok (by omega) o h5).mono ?_);rintro e w' ⟨rfl,x',t',a1,a2,a3,a4⟩;exact⟨rfl,x',t',a1,a2.z.mono (by omega),by omega,λe=>absurd e n28,λe=>by omega,λ_=>a4⟩
 by_cases h6:o.kind=6
 ·refine Un h hok hts o ho hpk (.inr (.inr (.inl h6))) (λW hW=>(Zeg hW hok o h6 ho.a1).mono ?_);rintro e w' ⟨rfl,x',t',a1,a2,a3⟩;exact⟨rfl,x',t',a1,a2.z.mono (by omega),by omega,λe=>absurd e n28,λe=>by omega,λe=>by omega⟩
 by_cases h7:o.kind=7
 ·refine Un h hok hts o ho hpk (.inr (.inr (.inr (.inl h7)))) (λW hW=>(Zdm hW o h7).mono ?_);rintro e w' ⟨rfl,a1⟩;exact⟨rfl,x,t,hW.below a1,Vz.refl _ _,by omega,λe=>absurd e n28,λe=>by omega,λe=>by omega⟩
 by_cases h9:o.kind=9
 ·refine Un h hok hts o ho hpk (.inr (.inr (.inr (.inr h9)))) (λW hW=>(hb h9 hW hok (by omega) o h9 (by omega)).mono ?_);rintro e w' ⟨rfl,x',t',a1,a2,a3⟩;exact⟨rfl,x',t',a1,a2,by omega,λe=>absurd e n28,λe=>by omega,λe=>by omega⟩
 ·exact Zhl h hok hts o ho hpk (by omega)
theorem Zk6 {ts:List Tn}{M:Nat}(h:LW w wb x ts)(hok:Ok x)(hts:ts.length≤1000000000)(o:Opr)(ho:OpOk o)(hM:∀t∈ts,t.F≤M)(hF:M+o.s.length≤1600000)(hb:o.kind=9→Zbj):
  Calls prog 12 #[.pointer (some ⟨wb,0,none⟩),.agg o.cells.toArray] w λe w'=>e=.returned (.bool true)∧PlaysP w' wb x ts (M+o.s.length):=by
 by_cases hk:o.kind=1
 ·refine(Zdt h hts hM o hk).mono ?_;rintro e w' ⟨rfl,⟨x',ts',a1,a2,a3,a4⟩,-⟩;exact⟨rfl,x',ts',a1,a2,a3,λt ht=>Zw (a4 t ht) (ZM _ _)⟩
 rcases Nat.eq_zero_or_pos ts.length with h0|h0
 ·obtain rfl:=Zx.1 h0;refine(Zhy h o hk).mono ?_;rintro e w' ⟨rfl,a1⟩;exact⟨rfl,x,[],a1,Vz.refl _ _,Nat.le_succ _,λt ht=>by cases ht⟩
 ·obtain⟨Ta,t,Tb,rfl,hl⟩:=Zgg ts (pick o.on ts.length) (VP _ _ h0);refine(Zcf h hok hts o ho hl.symm hk (by have:=hM t (by simp);omega) hb).mono ?_;rintro e w' ⟨rfl,x',t',a1,a2,a3,-⟩;refine⟨rfl,x',_,a1,a2,by simp,λs hs => ?_⟩;rcases ZE.1 hs with q|q
  ·exact Zw (hM s (by simp[q])) (ZM _ _)
  ·rcases ZL.1 q with rfl|q
   ·have:=hM t (by simp);omega
   ·exact Zw (hM s (by simp[q])) (ZM _ _)
end
end Go.Proofs.YtphkchjejbffeaaGreat
