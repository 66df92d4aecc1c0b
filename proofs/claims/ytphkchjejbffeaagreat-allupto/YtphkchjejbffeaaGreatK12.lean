/- JR, JS, JT -/
import Derived.Test.YtphkchjejbffeaaGreatK11
import Derived.Deep.RegionWith
set_option maxHeartbeats 16000000
set_option maxRecDepth 100000
namespace Go.Proofs.YtphkchjejbffeaaGreat
open Tryz
open Go.RowKit
variable {fl:List Nat}{L S n:Nat}{ps:Nat→UInt8→Nat→List Nat}
section
open Go.RowKit
attribute [local go_sem ↓] Go.wp_at_zero Go.wp_at_succ
theorem Zc8 {β:Type}(n:Nat)(f:Nat→Option β)(b:β)(h:(List.range n).findSome? f=some b):∃r,r<n∧f r=some b:=by obtain⟨a,ha,hb⟩:=List.exists_of_findSome?_eq_some h;exact⟨a,by simpa using ha,hb⟩
theorem Fi.met {od:Nat→Ord}{M:Nat→Option Nat}{st:St}(h:Fi S L n od ps fl M st)(o:Ord)(hs:o.qd<S)(x:Nat)(hx:Ui L ps o=some x):
  st.meets o=some (od x)∧VV S L (od x).qd (od x).qe (od x).qc∧x∈ps (od x).qd (od x).qe (od x).qc:=by
 refine⟨by rw[h.meets o hs,hx];rfl,?_⟩;obtain⟨r,hr,h2⟩:=Zc8 _ _ _ hx;generalize hz:(if other o.qe=66 then L-r else r+1)=z at h2;have hz1:1≤z∧z≤L:=by rw[←hz];split<;>omega
 have hv:VV S L o.qd (other o.qe) z:=⟨hs,TD _,hz1.1,hz1.2⟩;split at h2
 ·have hm:x∈ps o.qd (other o.qe) z:=List.mem_of_mem_head? h2;obtain⟨f1,f2,f3,-⟩:=h.fits hv hm;rw[f1,f2,f3];exact⟨hv,hm⟩
 ·cases h2
theorem Zd2 (n:Nat)(st:St)(o:Ord)(h:o.qa=0∨st.meets o=none):st.meet n o=(st,o):=by
 cases n with
 | zero=>rfl
 | succ n=>
  rw[St.meet];rcases h with h|h
  ·rw[Zg h]
  ·split
   ·rfl
   ·rw[h]
theorem Zkr (n:Nat)(st:St)(o f:Ord)(h0:o.qa≠0)(h:st.meets o=some f):st.meet (n+1) o=(st.execute o f (min o.qa f.qa)).meet n {o with qa:=o.qa-min o.qa f.qa}:=by rw[St.meet,Zj h0,h]
theorem Zj6 {od:Nat→Ord}{M:Nat→Option Nat}{st:St}(h:Fi S L n od ps fl M st)(o f:Ord)(x m:Nat)(hv:VV S L f.qd f.qe f.qc)(hx:x∈ps f.qd f.qe f.qc)(hnd:(ps f.qd f.qe f.qc).Nodup)(hf:od x=f)(hm:f.qa≤m):(st.execute o f m).ql+1=st.ql:=by
 obtain⟨a,b,hab⟩:=YV hx;have hcut:=h.cut hv hab hnd;rw[hf] at hcut;have hq:st.q f.qd f.qe f.qc=a.map od++f::b.map od:=by rw[h.q _ _ _ hv,hab,ZH,ZV,hf]
 have a1:=UK st f.qd f.qe f.qc (h.valid hv) (redO f.qf m);rw[hq,Zcz f.qf m (a.map od) f (b.map od) hcut.1 rfl,Zg hm] at a1;simp only[Yl,Zf,Zu] at a1;have e:(st.execute o f m).ql=(st.upd f.qd f.qe f.qc (redO f.qf m)).ql:=rfl;omega
def Zby (w:World)(g:Nat):Nat:=match w.cell? ⟨g,7,none⟩ with
 | some (.int _ n)=>n.toNat
 | _=>0
theorem Zd8 (b a z:Nat)(c:BC)(k:SK)(st:St)(o o':Ord)(st':St)(w:World)(h:Rel w b c k st)(hm:st.meet 65 o=(st',o'))(ho:o.qf<4294967296)(hos:o.qa≤9999)(hst:o.qd<k.S)(hsd:o.qe=66∨o.qe=83)(hpr:o.qc≤1000)(hra:st.ans.length≤70368744290000)(hrt:st.tape.length≤70368744290000):
  Calls prog 111 #[.pointer (some ⟨b,0,none⟩),ordV a z o] w λe w'=>e=.returned (ordV a z o')∧Does w b c k w' st':=by
 have hgb:∀j,GB b c k j→j<w.heap.size:=h.lt;have HR:=Zc h;have HM:=Zc hm;have hblt:=h.B.lt;clear h hm;unfold ordV ordL;go_enter func111,ntmps111;go_wp2_with fail;obtain⟨g,hg⟩:∃g,g=w.heap.size:=⟨_,rfl⟩;obtain⟨gr,hgr⟩:∃gr,gr=w.heap.size+1:=⟨_,rfl⟩;rw[←hgr,←hg];generalize hW:(World.alloc _ (Obj.cells #[Value.int .i64 0,Value.int .i64 0,Value.int .u32 0,Value.int .u32 0,Value.int .u8 0,Value.int .u8 0,Value.int .u16 0,Value.int .u16 0] 108))=W;have hFW:Fr (λ_=>False) w W:=by rw[←hW];exact(Fr.alloc _ w _).trans (Fr.alloc _ _ _) (λ_ _ e=>e)
 have hbg:W.heap[g]?=some (.cells (ordL a z o).toArray 108):=by rw[←hW,hg,YX,Zj (by rw[Xb];omega),YX,Zg rfl];rfl
 have hbr:W.heap[gr]?=some (.cells (ordL 0 0 Xr).toArray 108):=by rw[←hW,hgr,YX,Zg (by rw[Xb])];rfl
 have hsz:W.heap.size=w.heap.size+2:=by rw[←hW,Xb,Xb]
 clear hW;have nGg:¬GB b c k g:=λe=>by have:=hgb _ e;omega
 have nGr:¬GB b c k gr:=λe=>by have:=hgb _ e;omega
 have hggr:g≠gr:=by omega
 have hgW:g<W.heap.size:=by omega
 have hrW:gr<W.heap.size:=by omega
 have hR0:Hid (Rel W b c k st):=HR.o.quiet hFW;have HFW:=Zc hFW;have hres0:st.ql≤64:=by have a1:=HR.o.inv.room;have a2:=HR.o.inv.pool;omega
 have HG:=Zc (Zd hg hgr);clear hFW hg hgr hsz;go_loopw [5] (λ_ wr=>∃(i:Nat) (oc:Ord) (stc:St) (cc:BC),Hid (Rel wr b cc k stc∧Stp w b c k wr cc∧wr.heap[g]?=some (.cells (ordL a z oc).toArray 108)∧wr.heap[gr]?=some (.cells (ordL 0 0 Xr).toArray 108)∧oc={o with qa:=oc.qa}∧oc.qa≤9999∧stc.meet (65-i) oc=(st',o')∧i≤65∧(oc.qa=0∨stc.ql+i≤64)∧stc.ans.length≤st.ans.length+38*i∧stc.tape.length≤st.tape.length+17*i∧¬GB b cc k g∧¬GB b cc k gr)) (λ_ wr=>Zby wr g)
 case atStart=>exact⟨0,o,st,c,hR0.out,Stp.quiet HFW.o,hbg,hbr,rfl,hos,HM.o,by omega,Or.inr (by omega),by omega,by omega,nGg,nGr⟩
 case round=>
  obtain⟨i,oc,stc,cc,HH⟩:=hrel;clear hbg hbr hR0 nGg nGr;obtain⟨hR,hS,hbg,hbr,hoc,hos',hmt,hi65,hcnt,hla,hlt,nGg,nGr⟩:=HH.o;have hbox:Box wr g a z oc:=Box.of hbg;obtain⟨q0,q1,q2,q3,q4,q5,q6,q7⟩:=hbox;have g19:=hR.books;have hsh:Zby wr g=oc.qa:=by simp[Zby,q7]
  have otok:oc.qf<4294967296:=by rw[hoc];exact ho
  have ostk:oc.qd<k.S:=by rw[hoc];exact hst
  have osid:oc.qe=66∨oc.qe=83:=by rw[hoc];exact hsd
  have opri:oc.qc≤1000:=by rw[hoc];exact hpr
  have HOC:=Zc hoc;have HSH:=Zc hsh;have HNG:=Zc nGg;have HNR:=Zc nGr;have hglt:g<wr.heap.size:=(Ze.1 hbg).1;have hrlt:gr<wr.heap.size:=(Ze.1 hbr).1;have HBG:=Zc hbg;have HBR:=Zc hbr;have HMT:=Zc hmt;clear hR hS hbg hbr hsh hoc nGg nGr hmt;by_cases hs0:oc.qa=0
  ·have b0:¬((0:Int)<(oc.qa:Int)):=by omega
   have HBR9:=HBR;have HREL:Hid (Rel wr b cc k stc):=HH.o.1;have HSTP:Hid (Stp w b c k wr cc):=HH.o.2.1;have HMZ:Hid ((stc,oc)=(st',o')):=by show _=_;rw[←HMT.o,Zd2 _ _ _ (Or.inl hs0)]
   clear hs0;have hbr9:=HBR9.o;obtain⟨r0,r1,r2,r3,r4,r5,r6,r7⟩:=(Box.of hbr9:Box wr gr 0 0 Xr);have fro:∀j,wr.frozen? ⟨gr,j,none⟩=false:=λj=>by simp[World.frozen?,hbr9]
   have fr0:=fro 0;have fr1:=fro 1;have fr2:=fro 2;have fr3:=fro 3;have fr4:=fro 4;have fr5:=fro 5;have fr6:=fro 6;have fr7:=fro 7;clear fro hbr9;go_wp2_with fail;have hbr9:=HBR9.o;have hfin:((((((((wr.setCell ⟨gr,0,none⟩ (.int .i64 a)).setCell ⟨gr,1,none⟩ (.int .i64 z)).setCell ⟨gr,2,none⟩ (.int .u32 oc.ref)).setCell ⟨gr,3,none⟩ (.int .u32 oc.qf)).setCell ⟨gr,4,none⟩ (.int .u8 oc.qe.toNat)).setCell ⟨gr,5,none⟩ (.int .u8 oc.qd)).setCell ⟨gr,6,none⟩ (.int .u16 oc.qc)).setCell ⟨gr,7,none⟩ (.int .u16 oc.qa)).heap[gr]?=some (.cells (ordL a z oc).toArray 108):=by rw[(Zi _ gr 7 _ _ _ (Zi _ gr 6 _ _ _ (Zi _ gr 5 _ _ _ (Zi _ gr 4 _ _ _ (Zi _ gr 3 _ _ _ (Zi _ gr 2 _ _ _ (Zi _ gr 1 _ _ _ (Zi _ gr 0 _ _ _ hbr9))))))))];rfl
   have hfrn:Fr (λj=>j=gr) wr ((((((((wr.setCell ⟨gr,0,none⟩ (.int .i64 a)).setCell ⟨gr,1,none⟩ (.int .i64 z)).setCell ⟨gr,2,none⟩ (.int .u32 oc.ref)).setCell ⟨gr,3,none⟩ (.int .u32 oc.qf)).setCell ⟨gr,4,none⟩ (.int .u8 oc.qe.toNat)).setCell ⟨gr,5,none⟩ (.int .u8 oc.qd)).setCell ⟨gr,6,none⟩ (.int .u16 oc.qc)).setCell ⟨gr,7,none⟩ (.int .u16 oc.qa)):=XA gr (ordL a z oc) 0 wr;generalize ((((((((wr.setCell ⟨gr,0,none⟩ (.int .i64 a)).setCell ⟨gr,1,none⟩ (.int .i64 z)).setCell ⟨gr,2,none⟩ (.int .u32 oc.ref)).setCell ⟨gr,3,none⟩ (.int .u32 oc.qf)).setCell ⟨gr,4,none⟩ (.int .u8 oc.qe.toNat)).setCell ⟨gr,5,none⟩ (.int .u8 oc.qd)).setCell ⟨gr,6,none⟩ (.int .u16 oc.qc)).setCell ⟨gr,7,none⟩ (.int .u16 oc.qa))=w9 at hfin hfrn ⊢;obtain⟨y0,y1,y2,y3,y4,y5,y6,y7⟩:=(Box.of hfin:Box w9 gr a z oc);obtain⟨e1,e2⟩:=Prod.mk.inj HMZ.o;refine ZC (v:=ordV a z oc) (by unfold ordV ordL;simp[results,results111,go_sem,y0,y1,y2,y3,y4,y5,y6,y7]) rfl ⟨by rw[←e2];rfl,cc,?_,?_⟩
   ·rw[←e1];exact HREL.o.keep (λj hj=>hfrn.block j (HREL.o.lt j hj) (λe=>HNR.o (by rw[←(show j=gr from e)];exact hj)))
   ·exact⟨HSTP.o.fr.trans hfrn (λi hi e=>by have e:i=gr:=e;have:=HG.o.2;omega),HSTP.o.sub,HSTP.o.bytes,HSTP.o.have_,HSTP.o.opn⟩
  ·have b0:(0:Int)<(oc.qa:Int):=by omega
   obtain⟨M,od,ps,fl,j1,j2,j3⟩:=HH.o.1.ex;have HJ:Hid (Holds wr cc k stc M od ps fl):=⟨j1,j2,j3⟩;have hmp:=j3.met oc ostk;have hmn:=j3.meets oc ostk;have hne:∀s d p,VV k.S k.L s d p→(ps s d p).Nodup∧∀y∈ps s d p,y<k.n∧y≠0:=λs d p hv=>⟨(j1.nodup hv).1,(j1.nodup hv).2.1⟩;have HMP:=Zc (Zd hmp (Zd hmn hne));clear j1 j2 j3 hmp hmn hne;go_wp2_with fail;go_region_held3 (λw'=>(w'.cell? ⟨g,0,none⟩=some (.int .i64 a)∧w'.cell? ⟨g,1,none⟩=some (.int .i64 z)∧w'.cell? ⟨g,2,none⟩=some (.int .u32 oc.ref)∧w'.cell? ⟨g,3,none⟩=some (.int .u32 oc.qf)∧w'.cell? ⟨g,4,none⟩=some (.int .u8 oc.qe.toNat)∧w'.cell? ⟨g,5,none⟩=some (.int .u8 oc.qd)∧w'.cell? ⟨g,6,none⟩=some (.int .u16 oc.qc)∧w'.cell? ⟨g,7,none⟩=some (.int .u16 oc.qa))∧w'.cell? ⟨b,19,none⟩=some (.pointer (some ⟨k.bk,0,none⟩))) (first|exact m1|go_keep)
    ((go_at_call 118;refine(Zdi k wr.drew stc.ql a z oc od ps fl (HJ.o.1.keep (λ_ _=>rfl)) ostk osid opri).mono ?_;rintro e w1 ⟨rfl,hf1⟩;have m1:=Zd ((Box.fr (w:=wr.drew) ⟨q0,q1,q2,q3,q4,q5,q6,q7⟩ hf1.out (λe=>e)).all) (hf1.out.cell (w:=wr.drew) g19 (λe=>e))))
   have hF1:Hid (Fr (λ_=>False) wr w1):=(Fr.drew _ wr).trans hf1.out (λ_ _ e=>e);clear hf1 q0 q1 q2 q3 q4 q5 q6 q7 g19;obtain⟨⟨q0,q1,q2,q3,q4,q5,q6,q7⟩,g19⟩:=m1;cases hmp:Ui k.L ps oc with
   | none=>
    have HBR9:Hid (w1.heap[gr]?=some (.cells (ordL 0 0 Xr).toArray 108)):=(hF1.out.block _ hrlt (λe=>e)).trans HBR.o;have HREL:Hid (Rel w1 b cc k stc):=HH.o.1.quiet hF1.out;have HSTP:Hid (Stp w b c k w1 cc):=HH.o.2.1.trans (Stp.quiet hF1.out);have HMZ:Hid ((stc,oc)=(st',o')):=by show _=_;rw[←HMT.o,Zd2 _ _ _ (Or.inr (by rw[HMP.o.2.1,hmp];rfl))]
    clear hmp g19;dsimp only[Option.getD_none];have hbr9:=HBR9.o;obtain⟨r0,r1,r2,r3,r4,r5,r6,r7⟩:=(Box.of hbr9:Box w1 gr 0 0 Xr);have fro:∀j,w1.frozen? ⟨gr,j,none⟩=false:=λj=>by simp[World.frozen?,hbr9]
    have fr0:=fro 0;have fr1:=fro 1;have fr2:=fro 2;have fr3:=fro 3;have fr4:=fro 4;have fr5:=fro 5;have fr6:=fro 6;have fr7:=fro 7;clear fro hbr9;go_wp2_with fail;have hbr9:=HBR9.o;have hfin:((((((((w1.setCell ⟨gr,0,none⟩ (.int .i64 a)).setCell ⟨gr,1,none⟩ (.int .i64 z)).setCell ⟨gr,2,none⟩ (.int .u32 oc.ref)).setCell ⟨gr,3,none⟩ (.int .u32 oc.qf)).setCell ⟨gr,4,none⟩ (.int .u8 oc.qe.toNat)).setCell ⟨gr,5,none⟩ (.int .u8 oc.qd)).setCell ⟨gr,6,none⟩ (.int .u16 oc.qc)).setCell ⟨gr,7,none⟩ (.int .u16 oc.qa)).heap[gr]?=some (.cells (ordL a z oc).toArray 108):=by rw[(Zi _ gr 7 _ _ _ (Zi _ gr 6 _ _ _ (Zi _ gr 5 _ _ _ (Zi _ gr 4 _ _ _ (Zi _ gr 3 _ _ _ (Zi _ gr 2 _ _ _ (Zi _ gr 1 _ _ _ (Zi _ gr 0 _ _ _ hbr9))))))))];rfl
    have hfrn:Fr (λj=>j=gr) w1 ((((((((w1.setCell ⟨gr,0,none⟩ (.int .i64 a)).setCell ⟨gr,1,none⟩ (.int .i64 z)).setCell ⟨gr,2,none⟩ (.int .u32 oc.ref)).setCell ⟨gr,3,none⟩ (.int .u32 oc.qf)).setCell ⟨gr,4,none⟩ (.int .u8 oc.qe.toNat)).setCell ⟨gr,5,none⟩ (.int .u8 oc.qd)).setCell ⟨gr,6,none⟩ (.int .u16 oc.qc)).setCell ⟨gr,7,none⟩ (.int .u16 oc.qa)):=XA gr (ordL a z oc) 0 w1;generalize ((((((((w1.setCell ⟨gr,0,none⟩ (.int .i64 a)).setCell ⟨gr,1,none⟩ (.int .i64 z)).setCell ⟨gr,2,none⟩ (.int .u32 oc.ref)).setCell ⟨gr,3,none⟩ (.int .u32 oc.qf)).setCell ⟨gr,4,none⟩ (.int .u8 oc.qe.toNat)).setCell ⟨gr,5,none⟩ (.int .u8 oc.qd)).setCell ⟨gr,6,none⟩ (.int .u16 oc.qc)).setCell ⟨gr,7,none⟩ (.int .u16 oc.qa))=w9 at hfin hfrn ⊢;obtain⟨y0,y1,y2,y3,y4,y5,y6,y7⟩:=(Box.of hfin:Box w9 gr a z oc);obtain⟨e1,e2⟩:=Prod.mk.inj HMZ.o;refine ZC (v:=ordV a z oc) (by unfold ordV ordL;simp[results,results111,go_sem,y0,y1,y2,y3,y4,y5,y6,y7]) rfl ⟨by rw[←e2];rfl,cc,?_,?_⟩
    ·rw[←e1];exact HREL.o.keep (λj hj=>hfrn.block j (HREL.o.lt j hj) (λe=>HNR.o (by rw[←(show j=gr from e)];exact hj)))
    ·exact⟨HSTP.o.fr.trans hfrn (λi hi e=>by have e:i=gr:=e;have:=HG.o.2;omega),HSTP.o.sub,HSTP.o.bytes,HSTP.o.have_,HSTP.o.opn⟩
   | some x=>
    obtain⟨p1,p2,p3⟩:=HMP.o.1 x hmp;have hx0:=(HMP.o.2.2 _ _ _ p2).2 x p3;have bx0:((x:Int)==0)=false:=by simp;omega
    have hnd:=(HMP.o.2.2 _ _ _ p2).1;obtain⟨f,hf⟩:=Za (od x);rw[hf] at p1 p2 p3 hnd;have hfit:=HJ.o.2.2.fits p2 p3;rw[hf] at hfit;have hfl:=hfit.least;obtain⟨n,hn⟩:=Za (min oc.qa f.qa);obtain⟨v,hv⟩:=Za (oc.qa-n);have hnle:n≤oc.qa∧1≤n:=by omega
    have wv:IntKind.u16.wrap ((oc.qa:Int)-(n:Int))=(v:Int):=by rw[IntKind.wrap_u16];omega
    have hi64:i≤63:=by
     rcases hcnt with e|e
     ·omega
     ·have a1:1≤stc.ql:=by have:=HJ.o.2.2.in_all p2 p3;unfold St.ql;exact List.length_pos_of_mem this
      omega
    have HR1:Hid (Rel w1.drew b cc k stc):=(HH.o.1.quiet hF1.out).quiet (Fr.drew _ w1);have HJ1:Hid (Holds w1.drew cc k stc M od ps fl):=(HJ.o.quiet hF1.out).quiet (Fr.drew _ w1);have HEX:=Zc (Zfh b cc k stc M od ps fl x a z n oc f w1.drew HR1.o HJ1.o hf p2 p3 hn otok hos' (by omega) (by omega));have hres:=λh=>Zj6 HJ.o.2.2 oc f x n p2 p3 hnd hf h;have HPP:=Zc (Zd p1 (Zd hn (Zd hv hres)));clear hmp p1 p2 p3 hnd hfit hn hv hf hres;dsimp only[Option.getD_some];go_wp2_with fail;have hgw1:g<w1.heap.size:=Zn hglt hF1.out.size;have hrw1:gr<w1.heap.size:=Zn hrlt hF1.out.size;have HBG1:Hid (w1.heap[g]?=some (.cells (ordL a z oc).toArray 108)):=(hF1.out.block _ hglt (λe=>e)).trans HBG.o;have HBR1:Hid (w1.heap[gr]?=some (.cells (ordL 0 0 Xr).toArray 108)):=(hF1.out.block _ hrlt (λe=>e)).trans HBR.o;go_region_with ((go_at_call 146;refine HEX.o.mono ?_;rintro e w2 ⟨rfl,c2,hR2,hS2⟩;obtain⟨s0,s1,s2,s3,s4,s5,s6,s7⟩:=(Box.fr (w:=w1.drew) ⟨q0,q1,q2,q3,q4,q5,q6,q7⟩ hS2.fr HNG.o).all;have hbg2:w2.heap[g]?=some (.cells (ordL a z oc).toArray 108):=(hS2.fr.block (w:=w1.drew) g hgw1 HNG.o).trans HBG1.o;have hf7:w2.frozen? ⟨g,7,none⟩=false:=(by simp[World.frozen?,hbg2])))
    all_goals
     have hbg3:(w2.setCell ⟨g,7,none⟩ (.int .u16 v)).heap[g]?=some (.cells (ordL a z {oc with qa:=v}).toArray 108):=by rw[Zi w2 g 7 _ _ _ hbg2];rfl
     have hfr3:Fr (λj=>j=g) w2 (w2.setCell ⟨g,7,none⟩ (.int .u16 v)):=Fr.setCell w2 ⟨g,7,none⟩ _;generalize w2.setCell ⟨g,7,none⟩ (.int .u16 v)=w3 at hbg3 hfr3 ⊢;have nG2:¬GB b c2 k g:=λe=>(hS2.sub g e).elim HNG.o (λe=>by have e:w1.heap.size≤g:=e;omega);have nR2:¬GB b c2 k gr:=λe=>(hS2.sub gr e).elim HNR.o (λe=>by have e:w1.heap.size≤gr:=e;omega);have hS3:=HH.o.2.1.trans ((Stp.quiet hF1.out).trans ((Stp.quiet (Fr.drew _ w1)).trans hS2));have hbr3:w3.heap[gr]?=some (.cells (ordL 0 0 Xr).toArray 108):=(hfr3.block gr (Zn hrw1 hS2.fr.size) (Ne.symm hggr)).trans ((hS2.fr.block (w:=w1.drew) gr hrw1 HNR.o).trans HBR1.o);have hgrw:=QE stc oc f n;have hsh3:Zby w3 g=v:=by have h7:=(Box.of hbg3:Box w3 g a z {oc with qa:=v}).c7;simp[Zby,h7]
     obtain⟨p1,hn,hv,hres⟩:=HPP.o;have HALL:Hid (Rel w3 b c2 k (stc.execute oc f n)∧Stp w b c k w3 c2∧w3.heap[g]?=some (.cells (ordL a z {oc with qa:=v}).toArray 108)∧w3.heap[gr]?=some (.cells (ordL 0 0 Xr).toArray 108)∧({oc with qa:=v}:Ord)={o with qa:=v}∧v≤9999∧(stc.execute oc f n).meet (65-(i+1)) {oc with qa:=v}=(st',o')∧i+1≤65∧(v=0∨(stc.execute oc f n).ql+(i+1)≤64)∧(stc.execute oc f n).ans.length≤st.ans.length+38*(i+1)∧(stc.execute oc f n).tape.length≤st.tape.length+17*(i+1)∧¬GB b c2 k g∧¬GB b c2 k gr):=by
      refine⟨hR2.keep (λj hj=>hfr3.block j (hR2.lt j hj) (λe=>nG2 (by rw[←(show j=g from e)];exact hj))),⟨hS3.fr.trans hfr3 (λi hi e=>by have e:i=g:=e;have:=HG.o.1;omega),hS3.sub,hS3.bytes,hS3.have_,hS3.opn⟩,hbg3,hbr3,?_,by omega,?_,by omega,?_,?_,?_,nG2,nR2⟩
      ·rw[HOC.o]
      ·have h1:=HMT.o;rw[show 65-i=(65-(i+1))+1 by omega,Zkr _ _ _ f (by omega) p1,hn,hv] at h1;exact h1
      ·by_cases e:v=0
       ·exact Or.inl e
       ·have hfn:f.qa≤n:=by omega
        have:=hres hfn
        right
        rcases hcnt with q|q
        ·omega
        ·omega
      ·have:=hgrw.ans;omega
      ·have:=hgrw.tape;omega
     have HSH3:=Zc hsh3;have hvlt:v<oc.qa:=by omega
     clear hbg3 hfr3 nG2 nR2 hS3 hbr3 hgrw hsh3 p1 hn hv hres hR2 hS2 hbg2 hf7 hcnt hla hlt;go_wp2_with fail;exact⟨⟨i+1,{oc with qa:=v},stc.execute oc f n,c2,HALL⟩,by rw[HSH3.o,HSH.o];exact hvlt⟩
def whyV :Option UInt8→Value
 | some r=>.tuple #[.int .u8 r.toNat,.bool true]
 | none=>.tuple #[.int .u8 0,.bool false]
def UE (t:Nat)(qe:UInt8)(qd qc qa:Nat)(kind:UInt8):Value:=.agg #[.int .u32 t,.int .u8 qe.toNat,.int .u8 qd,.int .u16 qc,.int .u16 qa,.int .u8 kind.toNat]
theorem Zcl (t u:UInt8)(h:t≠u):(((t.toNat:Int))==(u.toNat:Int))=false:=by rw[Zz];intro e;exact h (YG.1 (by omega))
theorem Lk.full {free:Nat}{fs ls:Nat→Nat→Nat}{bef aft:Nat→Nat}(h:Lk S L n free fs ls bef aft ps fl):free=0↔fl=[]:=by
 have:=h.free;rcases fl with _|⟨x,fl⟩
 ·simp[Zbq] at this;simp[this]
 ·obtain⟨h1,h2,-⟩:=this;simp[h1,h2]
theorem Qa (x:Int)(w:World)(h:x=66∨x=83):
  Calls prog 74 #[.int .u8 x] w λe w'=>e=.returned (.bool true)∧w'=w:=by
 rcases h with rfl|rfl;all_goals
  go_enter func74,ntmps74;go_wp2_with fail;go_ret;exact⟨rfl,rfl⟩
theorem QX (qe:UInt8)(h:qe≠66∧qe≠83)(w:World):
  Calls prog 74 #[.int .u8 qe.toNat] w λe w'=>e=.returned (.bool false)∧w'=w:=by
 have n1:((qe.toNat:Int)==66)=false:=Zcl qe 66 h.1;have n2:((qe.toNat:Int)==83)=false:=Zcl qe 83 h.2;go_enter func74,ntmps74;go_wp2_with fail;go_ret;exact⟨rfl,rfl⟩
theorem Tm (b:Nat)(c:BC)(k:SK)(st:St)(t:Nat)(qe:UInt8)(qd qc qa:Nat)(kind:UInt8)(w:World)(h:Rel w b c k st)(ht:t<4294967296)(hst:qd<256)(hp:qc<65536)(hs:qa<65536):
  Calls prog 109 #[.pointer (some ⟨b,0,none⟩),UE t qe qd qc qa kind] w λe w'=>e=.returned (whyV (st.why t qe qd qc qa kind))∧Hid (Fr (λ_=>False) w w'):=by
 obtain⟨rv,hrv⟩:=Za (whyV (st.why t qe qd qc qa kind));rw[hrv];have HRV:=Zc hrv;clear hrv;obtain⟨M,od,ps,fl,j1,j2,j3⟩:=h.ex;obtain⟨free,fs,ls,bef,aft,h4,h5⟩:=j1.ex;have g19:=h.books;have hblt:=h.B.lt;have hgb:∀j,GB b c k j→j<w.heap.size:=h.lt;have HFN:Hid (free=0↔st.pool≤st.ql):=by
  have a1:=h5.full;have a2:=j3.cnt;constructor
  ·intro e;rw[a1.1 e] at a2;simp at a2;omega
  ·intro e;apply a1.2;rcases fl with _|⟨x,fl⟩
   ·rfl
   ·rw[Zu] at a2;omega
 have HST:Hid (k.S=st.qk):=j3.hS;have hSS:(k.S:Int)=(st.qk:Int):=by rw[HST.o]
 have HSS:=Zc hSS;have HR:=Zc h;have H4:=Zc h4;have ws:IntKind.i64.wrap (qd:Int)=(qd:Int):=by rw[Zq];omega
 clear h j1 j2 j3 h4 h5 hSS;obtain⟨bp,hbp⟩:=Za (decide (1≤qc∧qc≤st.qj));obtain⟨bs,hbs⟩:=Za (decide (1≤qa∧qa≤9999));obtain⟨bf,hbf⟩:=Za ((((k.kc free st.ql).free:Int)==0));have HKY:Hid (t∉st.used→¬(qe≠66∧qe≠83)→¬st.qk≤qd→
   (bp=false∧st.why t qe qd qc qa kind=some 80)∨(bp=true∧bs=false∧st.why t qe qd qc qa kind=some 81)∨
   (bp=true∧bs=true∧(((kind.toNat:Int) !=68)=true∧((kind.toNat:Int) !=73)=true)∧st.why t qe qd qc qa kind=some 75)∨
   (bp=true∧bs=true∧kind=68∧bf=true∧st.why t qe qd qc qa kind=some 70)∨(bp=true∧bs=true∧kind=68∧bf=false∧st.why t qe qd qc qa kind=none)∨
   (bp=true∧bs=true∧kind=73∧st.why t qe qd qc qa kind=none)):=by
  intro h1 h2 h3;unfold St.why;rw[Zj h1,Zj h2,Zj h3];by_cases h4:1≤qc∧qc≤st.qj
  ·rw[Zj (by omega)];have hp1:bp=true:=by rw[←hbp];exact YD h4
   by_cases h5:1≤qa∧qa≤9999
   ·rw[Zj (by omega)];have hs1:bs=true:=by rw[←hbs];exact YD h5
    by_cases h6:kind≠68∧kind≠73
    ·rw[Zg h6];exact .inr (.inr (.inl ⟨hp1,hs1,⟨by have:=Zcl kind 68 h6.1;simp at this ⊢;exact this,by have:=Zcl kind 73 h6.2;simp at this ⊢;exact this⟩,rfl⟩))
    rw[Zj h6];by_cases h7:kind=68
    ·by_cases h8:st.pool≤st.ql
     ·rw[Zg ⟨h7,h8⟩];exact .inr (.inr (.inr (.inl ⟨hp1,hs1,h7,by rw[←hbf];show((free:Int)==0)=true;rw[HFN.o.2 h8];rfl,rfl⟩)))
     ·rw[Zj (λe=>h8 e.2)];refine .inr (.inr (.inr (.inr (.inl ⟨hp1,hs1,h7,?_,rfl⟩))));rw[←hbf];show((free:Int)==0)=false;have:free≠0:=λe=>h8 (HFN.o.1 e);simp;omega
    ·rw[Zj (λe=>h7 e.1)];have h8:kind=73:=by
      by_cases e:kind=73
      ·exact e
      ·exact absurd ⟨h7,e⟩ h6
     exact .inr (.inr (.inr (.inr (.inr ⟨hp1,hs1,h8,rfl⟩))))
   ·rw[Zg (by omega)];exact .inr (.inl ⟨hp1,by rw[←hbs];exact Yo h5,rfl⟩)
  ·rw[Zg (by omega)];exact .inl ⟨by rw[←hbp];exact Yo h4,rfl⟩
 have HP:=Zc hbp;have HS:=Zc hbs;have HFU:=Zc hbf;clear hbp hbs hbf;unfold UE;go_enter func109,ntmps109;go_wp2_with fail;generalize hOb:Obj.cells _ 157=Ob;have hF:Fr (λ_=>False) w (w.alloc Ob):=Fr.alloc _ w Ob;have cc:∀i v,(#[Value.int .u32 t,.int .u8 qe.toNat,.int .u8 qd,.int .u16 qc,.int .u16 qa,.int .u8 kind.toNat]:Array Value)[i]?=some v→(w.alloc Ob).cell? ⟨w.heap.size,i,none⟩=some v:=by intro i v hv;rw[Zk _ w.heap.size i _ 157 (0,0) (by rw[YX,Zg rfl,←hOb])];exact hv
 generalize w.alloc Ob=W at hF cc ⊢;have q0:=cc 0 _ rfl;have q1:=cc 1 _ rfl;have q2:=cc 2 _ rfl;have q3:=cc 3 _ rfl;have q4:=cc 4 _ rfl;have q5:=cc 5 _ rfl;have HRW:Hid (Rel W b c k st):=HR.o.quiet hF;have HK:Hid (IsK W k.bk (k.kc free st.ql)):=⟨(hF.block _ H4.o.K.lt (λe=>e)).trans H4.o.K.blk⟩;have g19w:=hF.cell g19 (λe=>e);have HF:=Zc hF;clear hF cc g19 hOb;refine(TG b c k st t W HRW.o ht).mono (Zb ?_);by_cases h1:t∈st.used
 ·have HU:Hid (decide (t∈st.used)=true):=by show _=_;simp[h1]
  rw[HU.o];go_wp2_with fail;go_ret2
  exact⟨by rw[←HRV.o];unfold St.why;rw[Zg h1];rfl,HF.o⟩
 have HU:Hid (decide (t∈st.used)=false):=by show _=_;simp[h1]
 rw[HU.o];go_wp2_with fail;by_cases h2:qe≠66∧qe≠83
 ·refine(QX qe h2 W).mono (Zb ?_);go_wp2_with fail;go_ret2
  exact⟨by rw[←HRV.o];unfold St.why;rw[Zj h1,Zg h2];rfl,HF.o⟩
 have h2':qe=66∨qe=83:=by
  by_cases e:qe=66
  ·exact Or.inl e
  ·by_cases e2:qe=83
   ·exact Or.inr e2
   ·exact absurd ⟨e,e2⟩ h2
 have HC:=Zc (Zd h1 h2);clear h1 h2;rcases h2' with rfl|rfl;all_goals
  refine(Qa _ W (by first|exact .inl rfl|exact .inr rfl)).mono (Zb ?_);go_wp2_with fail;by_cases s2:(k.kc free st.ql).qk≤qd;all_goals
   go_region_held3 (λw'=>w'.cell? ⟨w.heap.size,2,none⟩=some (.int .u8 qd)∧w'.cell? ⟨b,19,none⟩=some (.pointer (some ⟨k.bk,0,none⟩))) (first|exact m1|go_keep)
    ((go_at_call 47;refine(Qi k.bk (k.kc free st.ql) W.drew ⟨HK.o.blk⟩).mono (Zb ?_);have m1:W.drew.cell? ⟨w.heap.size,2,none⟩=some (.int .u8 qd)∧W.drew.cell? ⟨b,19,none⟩=some (.pointer (some ⟨k.bk,0,none⟩)):=⟨q2,g19w⟩))
  ·go_wp2_with fail;go_ret2
   have h3:st.qk≤qd:=by rw[←HST.o];exact s2
   exact⟨by rw[←HRV.o];unfold St.why;rw[Zj HC.o.1,Zj HC.o.2,Zg h3];rfl,HF.o.trans (Fr.drew _ W) (λ_ _ e=>e)⟩
  have h3:¬st.qk≤qd:=by rw[←HST.o];exact s2
  rcases HKY.o HC.o.1 HC.o.2 h3 with⟨rfl,hy⟩|⟨rfl,rfl,hy⟩|⟨rfl,rfl,⟨k1,k2⟩,hy⟩|⟨rfl,rfl,rfl,rfl,hy⟩|⟨rfl,rfl,rfl,rfl,hy⟩|⟨rfl,rfl,rfl,hy⟩;all_goals
   have HY:=Zc hy;clear hy h3 HKY;go_wp2_with (first
    | (go_at_call 142;refine(Ua b c k st qc W.drew (HRW.o.quiet (Fr.drew _ W)) hp _ HP.o).mono (Zb ?_))
    | (go_at_call 143;refine(Vq qa W.drew hs _ HS.o).mono (Zb ?_))
    | (go_at_call 144;refine(Zgv k.bk (k.kc free st.ql) W.drew ⟨HK.o.blk⟩).mono (Zb ?_);rw[HFU.o]))
   go_ret2
   exact⟨by rw[←HRV.o,HY.o];rfl,HF.o.trans (Fr.drew _ W) (λ_ _ e=>e)⟩
theorem Zhi (b:Nat)(c:BC)(k:SK)(st:St)(t:Nat)(qe:UInt8)(qd qc qa:Nat)(kind:UInt8)(o:Ord)(w:World)(h:Rel w b c k st)(ht:t<4294967296)(hst:qd<256)(hp:qc<65536)(hs:qa<65536)(hu:t∉st.used)(hra:st.ans.length≤70368744280000)
  (ho:({ref:=(st.qg+1)%4294967296,qf:=t,qe,qd,qc,qa}:Ord)=o):
  Calls prog 112 #[.pointer (some ⟨b,0,none⟩),UE t qe qd qc qa kind] w λe w'=>e=.returned (ordV 0 0 o)∧Does w b c k w' (st.accept o kind):=by
 have hgb:∀j,GB b c k j→j<w.heap.size:=h.lt;have hblt:=h.B.lt;obtain⟨r,hr⟩:=Za ((st.qg+1)%4294967296);rw[hr] at ho;have hrl:r<4294967296:=by rw[←hr];exact YF _ (by decide)
 subst ho;have HR:=Zc h;have HRr:=Zc hr;clear h hr;unfold UE ordV ordL;go_enter func112,ntmps112;go_wp2_with fail;obtain⟨gm,hgm⟩:∃g,g=w.heap.size:=⟨_,rfl⟩;obtain⟨gr,hgr⟩:∃gr,gr=w.heap.size+1:=⟨_,rfl⟩;rw[←hgr,←hgm];generalize hW:(World.alloc _ (Obj.cells #[Value.int .i64 0,Value.int .i64 0,Value.int .u32 0,Value.int .u32 0,Value.int .u8 0,Value.int .u8 0,Value.int .u16 0,Value.int .u16 0] 108))=W;have hFW:Fr (λ_=>False) w W:=by rw[←hW];exact(Fr.alloc _ w _).trans (Fr.alloc _ _ _) (λ_ _ e=>e)
 have hbm:W.heap[gm]?=some (.cells #[.int .u32 t,.int .u8 qe.toNat,.int .u8 qd,.int .u16 qc,.int .u16 qa,.int .u8 kind.toNat] 157):=by rw[←hW,hgm,YX,Zj (by rw[Xb];omega),YX,Zg rfl]
 have hbr:W.heap[gr]?=some (.cells (ordL 0 0 Xr).toArray 108):=by rw[←hW,hgr,YX,Zg (by rw[Xb])];rfl
 clear hW;have nGm:¬GB b c k gm:=λe=>by have:=hgb _ e;omega
 have nGr:¬GB b c k gr:=λe=>by have:=hgb _ e;omega
 have hgmr:gm≠gr:=by omega
 have cm:∀i v,(#[Value.int .u32 t,.int .u8 qe.toNat,.int .u8 qd,.int .u16 qc,.int .u16 qa,.int .u8 kind.toNat]:Array Value)[i]?=some v→W.cell? ⟨gm,i,none⟩=some v:=λi v hv=>by rw[Zk W gm i _ _ (0,0) hbm];exact hv
 have q0:=cm 0 _ rfl;have q1:=cm 1 _ rfl;have q2:=cm 2 _ rfl;have q3:=cm 3 _ rfl;have q4:=cm 4 _ rfl;have q5:=cm 5 _ rfl;have HRW:Hid (Rel W b c k st):=HR.o.quiet hFW;have HFW:=Zc hFW;have hmW:gm<W.heap.size:=(Ze.1 hbm).1;have hrW:gr<W.heap.size:=(Ze.1 hbr).1;have HBM:=Zc hbm;have HBR:=Zc hbr;have HG:=Zc (Zd hgm hgr);have HNG:=Zc (Zd nGm nGr);clear hFW hbm hbr cm hgm hgr nGm nGr;have hnGo:¬GB b c k W.heap.size:=λe=>by have:=HRW.o.lt _ e;omega
 have hnm:gm≠W.heap.size:=by omega
 have hnm2:¬W.heap.size=gm:=by omega
 have HRa:Hid (Rel W.drew b c k st):=HRW.o.quiet (Fr.drew _ W);obtain⟨VB,hVB⟩:∃VB,VB=(W.alloc (Obj.cells #[Value.int .i64 0,Value.int .i64 0,Value.int .u32 0,Value.int .u32 0,Value.int .u8 0,Value.int .u8 0,Value.int .u16 0,Value.int .u16 0] 108)).drew:=⟨_,rfl⟩;have HRb:Hid (Rel VB b c k st):=by rw[hVB];exact(HRW.o.quiet (Fr.alloc _ W _)).quiet (Fr.drew _ _)
 have AQ:∀i v,W.cell? ⟨gm,i,none⟩=some v→VB.cell? ⟨gm,i,none⟩=some v:=λi v hv=>by rw[hVB];exact(show(W.alloc (Obj.cells #[Value.int .i64 0,Value.int .i64 0,Value.int .u32 0,Value.int .u32 0,Value.int .u8 0,Value.int .u8 0,Value.int .u16 0,Value.int .u16 0] 108)).cell? ⟨gm,i,none⟩=some v from(Fr.alloc (λ_=>False) W (Obj.cells #[Value.int .i64 0,Value.int .i64 0,Value.int .u32 0,Value.int .u32 0,Value.int .u8 0,Value.int .u8 0,Value.int .u16 0,Value.int .u16 0] 108)).cell hv (λe=>e))
 have HFB:Hid (Fr (λ_=>False) W VB):=by rw[hVB];exact(Fr.alloc _ W _).trans (Fr.drew _ _) (λ_ _ e=>e)
 have HVS:Hid (W.heap.size<VB.heap.size∧VB.heap[W.heap.size]?=some (Obj.cells #[Value.int .i64 0,Value.int .i64 0,Value.int .u32 0,Value.int .u32 0,Value.int .u8 0,Value.int .u8 0,Value.int .u16 0,Value.int .u16 0] 108)):=by rw[hVB];exact⟨by show W.heap.size<(W.alloc (Obj.cells #[Value.int .i64 0,Value.int .i64 0,Value.int .u32 0,Value.int .u32 0,Value.int .u8 0,Value.int .u8 0,Value.int .u16 0,Value.int .u16 0] 108)).heap.size;rw[Xb];omega,by show(W.alloc (Obj.cells #[Value.int .i64 0,Value.int .i64 0,Value.int .u32 0,Value.int .u32 0,Value.int .u8 0,Value.int .u8 0,Value.int .u16 0,Value.int .u16 0] 108)).heap[W.heap.size]?=_;rw[YX,Zg rfl]⟩
 have v0:=AQ _ _ q0;have q0d:W.drew.cell? ⟨gm,0,none⟩=_:=q0;have v1:=AQ _ _ q1;have q1d:W.drew.cell? ⟨gm,1,none⟩=_:=q1;have v2:=AQ _ _ q2;have q2d:W.drew.cell? ⟨gm,2,none⟩=_:=q2;have v3:=AQ _ _ q3;have q3d:W.drew.cell? ⟨gm,3,none⟩=_:=q3;have v4:=AQ _ _ q4;have q4d:W.drew.cell? ⟨gm,4,none⟩=_:=q4;have v5:=AQ _ _ q5;have q5d:W.drew.cell? ⟨gm,5,none⟩=_:=q5;have HVB:=Zc hVB;clear hVB AQ;go_region_held3 (λw'=>w'.cell? ⟨gm,0,none⟩=some (.int .u32 t)∧w'.cell? ⟨gm,1,none⟩=some (.int .u8 qe.toNat)∧w'.cell? ⟨gm,2,none⟩=some (.int .u8 qd)∧w'.cell? ⟨gm,3,none⟩=some (.int .u16 qc)∧w'.cell? ⟨gm,4,none⟩=some (.int .u16 qa)∧w'.cell? ⟨gm,5,none⟩=some (.int .u8 kind.toNat)) (first|with_reducible exact m1|go_keep)
  ((go_at_call 147;first|(rw[←HVB.o];refine(Qz b c k st t r VB HRb.o ht hu HRr.o).mono ?_;rintro e w2 ⟨rfl,c2,hR2,hS2⟩;have hp0:=hS2.fr.cell v0 HNG.o.1;have hp1:=hS2.fr.cell v1 HNG.o.1;have hp2:=hS2.fr.cell v2 HNG.o.1;have hp3:=hS2.fr.cell v3 HNG.o.1;have hp4:=hS2.fr.cell v4 HNG.o.1;have hp5:=hS2.fr.cell v5 HNG.o.1;have m1:=Zd hp0 (Zd hp1 (Zd hp2 (Zd hp3 (Zd hp4 hp5))));have hmw2:gm<w2.heap.size:=ZU w2 _ hp0;have hbo2:w2.heap[W.heap.size]?=some (Obj.cells #[Value.int .i64 0,Value.int .i64 0,Value.int .u32 0,Value.int .u32 0,Value.int .u8 0,Value.int .u8 0,Value.int .u16 0,Value.int .u16 0] 108):=(hS2.fr.block W.heap.size HVS.o.1 hnGo).trans HVS.o.2;obtain⟨x0,x1,x2,x3,x4,x5,x6,x7⟩:=Box.of (o:=Xr) (a:=0) (z:=0) hbo2;have fo:∀j,w2.frozen? ⟨W.heap.size,j,none⟩=false:=(λj=>(by simp[World.frozen?,hbo2]));have fo0:=fo 0;have fo1:=fo 1;have fo2:=fo 2;have fo3:=fo 3;have fo4:=fo 4;have fo5:=fo 5;have fo6:=fo 6;have fo7:=fo 7;clear fo;replace hbo2:=Zc hbo2;replace hR2:=Zc hR2;replace hS2:=Zc hS2)|(refine(Qz b c k st t r W.drew HRa.o ht hu HRr.o).mono ?_;rintro e w2 ⟨rfl,c2,hR2,hS2⟩;have hp0:=hS2.fr.cell q0d HNG.o.1;have hp1:=hS2.fr.cell q1d HNG.o.1;have hp2:=hS2.fr.cell q2d HNG.o.1;have hp3:=hS2.fr.cell q3d HNG.o.1;have hp4:=hS2.fr.cell q4d HNG.o.1;have hp5:=hS2.fr.cell q5d HNG.o.1;have m1:=Zd hp0 (Zd hp1 (Zd hp2 (Zd hp3 (Zd hp4 hp5))));have hmw2:gm<w2.heap.size:=ZU w2 _ hp0;replace hR2:=Zc hR2;replace hS2:=Zc hS2)))
 ·have hFA:Fr (λ_=>False) w2 (w2.alloc (Obj.cells #[Value.int .i64 0,Value.int .i64 0,Value.int .u32 r,Value.int .u32 t,Value.int .u8 qe.toNat,Value.int .u8 qd,Value.int .u16 qc,Value.int .u16 qa] 108)):=Fr.alloc _ _ _;have hgr2:gr<w2.heap.size:=Zn hrW hS2.out.fr.size;have hbA:(w2.alloc (Obj.cells #[Value.int .i64 0,Value.int .i64 0,Value.int .u32 r,Value.int .u32 t,Value.int .u8 qe.toNat,Value.int .u8 qd,Value.int .u16 qc,Value.int .u16 qa] 108)).heap[w2.heap.size]?=some (.cells (ordL 0 0 ({ref:=r,qf:=t,qe:=qe,qd:=qd,qc:=qc,qa:=qa}:Ord)).toArray 108):=by rw[YX,Zg rfl];rfl
  obtain⟨bo,hbo⟩:=Za (w2.heap.size);have nG:∀g,g<W.heap.size→¬GB b c k g→¬GB b c2 k g:=λg hg hn e=>(hS2.out.sub g e).elim hn (λe=>by have e:W.heap.size≤g:=e;omega);have hR2':=hR2.out.quiet hFA;have hS2':=(Stp.quiet HFW.o).trans ((Stp.quiet (Fr.drew _ W)).trans (hS2.out.trans (Stp.quiet hFA)));have h5':=hFA.cell hp5 (λe=>e);have hr':(w2.alloc (Obj.cells #[Value.int .i64 0,Value.int .i64 0,Value.int .u32 r,Value.int .u32 t,Value.int .u8 qe.toNat,Value.int .u8 qd,Value.int .u16 qc,Value.int .u16 qa] 108)).heap[gr]?=some (.cells (ordL 0 0 Xr).toArray 108):=(hFA.block _ hgr2 (λe=>e)).trans ((hS2.out.fr.block (w:=W.drew) gr hrW HNG.o.2).trans HBR.o);have hnb:¬GB b c2 k w2.heap.size:=λe=>by have:=hR2.out.lt _ e;omega
  rw[hbo] at hbA hnb ⊢;generalize w2.alloc (Obj.cells #[Value.int .i64 0,Value.int .i64 0,Value.int .u32 r,Value.int .u32 t,Value.int .u8 qe.toNat,Value.int .u8 qd,Value.int .u16 qc,Value.int .u16 qa] 108)=V at hFA hbA hR2' hS2' h5' hr' ⊢;have HV:Hid (Rel V b c2 k {st with qg:=r,used:=t::st.used}∧Stp w b c k V c2∧V.heap[bo]?=some (.cells (ordL 0 0 ({ref:=r,qf:=t,qe:=qe,qd:=qd,qc:=qc,qa:=qa}:Ord)).toArray 108)∧V.cell? ⟨gm,5,none⟩=some (.int .u8 kind.toNat)∧V.heap[gr]?=some (.cells (ordL 0 0 Xr).toArray 108)∧¬GB b c2 k bo∧¬GB b c2 k gm∧¬GB b c2 k gr):=⟨hR2',hS2',hbA,h5',hr',hnb,nG gm hmW HNG.o.1,nG gr hrW HNG.o.2⟩;clear hFA hbA hR2' hS2' h5' hr' hnb hbo nG;clear hp0 hp1 hp2 hp3 hp4 hp5 m1 hR2 hS2;obtain⟨hRV,hSV,hbV,h5V,hrV,nbo,nmo,nro⟩:=HV.o;obtain⟨y0,y1,y2,y3,y4,y5,y6,y7⟩:=(Box.of hbV:Box V bo 0 0 ({ref:=r,qf:=t,qe:=qe,qd:=qd,qc:=qc,qa:=qa}:Ord));have HRV:=Zc hRV;have htmv:=hRV.time;have hok:(poOf 0 0 ({ref:=r,qf:=t,qe:=qe,qd:=qd,qc:=qc,qa:=qa}:Ord)).ok:=⟨hrl,ht,hst,hp,hs⟩;have HT:=Zc (UI b c2 st.ans (poOf 0 0 ({ref:=r,qf:=t,qe:=qe,qd:=qd,qc:=qc,qa:=qa}:Ord)) kind V hRV.B hRV.tm.1 hRV.tm.2 hRV.A hRV.dist.ab (by omega) hok);clear hRV hSV hbV hrV nbo nmo nro hok;go_wp2_with fail;refine HT.o.mono ?_;rintro e w4 ⟨rfl,ht4⟩;obtain⟨c4,hR4,hS4,-,-⟩:=HRV.o.tellA (l:=st.head 65++enc t 4++[qe,UInt8.ofNat qd]++enc qc 2++enc qa 2++[kind]++enc r 4) ht4 (by show st.ans++65::enc c2.time 6++enc t 4++[qe]++[UInt8.ofNat qd]++enc qc 2++enc qa 2++[kind]++enc r 4=st.ans++(st.head 65++enc t 4++[qe,UInt8.ofNat qd]++enc qc 2++enc qa 2++[kind]++enc r 4);have htm':c2.time=st.time:=htmv;unfold St.head;rw[htm'];simp)
  obtain⟨hRV,hSV,hbV,h5V',hrV,nbo,nmo,nro⟩:=HV.o;obtain⟨z0,z1,z2,z3,z4,z5,z6,z7⟩:=(Box.of ((hS4.fr.block _ (Ze.1 hbV).1 nbo).trans hbV):Box w4 bo 0 0 ({ref:=r,qf:=t,qe:=qe,qd:=qd,qc:=qc,qa:=qa}:Ord));have hbr4:w4.heap[gr]?=some (.cells (ordL 0 0 Xr).toArray 108):=(hS4.fr.block _ (Ze.1 hrV).1 nro).trans hrV;obtain⟨r0,r1,r2,r3,r4,r5,r6,r7⟩:=(Box.of hbr4:Box w4 gr 0 0 Xr);have fro:∀j,w4.frozen? ⟨gr,j,none⟩=false:=λj=>by simp[World.frozen?,hbr4]
  have fr0:=fro 0;have fr1:=fro 1;have fr2:=fro 2;have fr3:=fro 3;have fr4:=fro 4;have fr5:=fro 5;have fr6:=fro 6;have fr7:=fro 7;have hnr4:¬GB b c4 k gr:=λe=>(hS4.sub gr e).elim nro (λe=>by have:=(Ze.1 hrV).1;omega);have HR4:=Zc hR4;have HS4:Hid (Stp w b c k w4 c4):=hSV.trans hS4;have HBR4:=Zc hbr4;clear fro hbr4 hRV hSV hbV h5V' hrV nbo nmo nro hR4 hS4 ht4 y0 y1 y2 y3 y4 y5 y6 y7 h5V;go_wp2_with fail;have hbr4:=HBR4.o;have hfin:((((((((w4.setCell ⟨gr,0,none⟩ (.int .i64 0)).setCell ⟨gr,1,none⟩ (.int .i64 0)).setCell ⟨gr,2,none⟩ (.int .u32 r)).setCell ⟨gr,3,none⟩ (.int .u32 t)).setCell ⟨gr,4,none⟩ (.int .u8 qe.toNat)).setCell ⟨gr,5,none⟩ (.int .u8 qd)).setCell ⟨gr,6,none⟩ (.int .u16 qc)).setCell ⟨gr,7,none⟩ (.int .u16 qa)).heap[gr]?=some (.cells (ordL 0 0 ({ref:=r,qf:=t,qe:=qe,qd:=qd,qc:=qc,qa:=qa}:Ord)).toArray 108):=by rw[(Zi _ gr 7 _ _ _ (Zi _ gr 6 _ _ _ (Zi _ gr 5 _ _ _ (Zi _ gr 4 _ _ _ (Zi _ gr 3 _ _ _ (Zi _ gr 2 _ _ _ (Zi _ gr 1 _ _ _ (Zi _ gr 0 _ _ _ hbr4))))))))];rfl
  have hfrn:Fr (λj=>j=gr) w4 ((((((((w4.setCell ⟨gr,0,none⟩ (.int .i64 0)).setCell ⟨gr,1,none⟩ (.int .i64 0)).setCell ⟨gr,2,none⟩ (.int .u32 r)).setCell ⟨gr,3,none⟩ (.int .u32 t)).setCell ⟨gr,4,none⟩ (.int .u8 qe.toNat)).setCell ⟨gr,5,none⟩ (.int .u8 qd)).setCell ⟨gr,6,none⟩ (.int .u16 qc)).setCell ⟨gr,7,none⟩ (.int .u16 qa)):=XA gr (ordL 0 0 ({ref:=r,qf:=t,qe:=qe,qd:=qd,qc:=qc,qa:=qa}:Ord)) 0 w4;generalize ((((((((w4.setCell ⟨gr,0,none⟩ (.int .i64 0)).setCell ⟨gr,1,none⟩ (.int .i64 0)).setCell ⟨gr,2,none⟩ (.int .u32 r)).setCell ⟨gr,3,none⟩ (.int .u32 t)).setCell ⟨gr,4,none⟩ (.int .u8 qe.toNat)).setCell ⟨gr,5,none⟩ (.int .u8 qd)).setCell ⟨gr,6,none⟩ (.int .u16 qc)).setCell ⟨gr,7,none⟩ (.int .u16 qa))=w9 at hfin hfrn ⊢;obtain⟨u0,u1,u2,u3,u4,u5,u6,u7⟩:=(Box.of hfin:Box w9 gr 0 0 ({ref:=r,qf:=t,qe:=qe,qd:=qd,qc:=qc,qa:=qa}:Ord));refine ZC (v:=ordV 0 0 ({ref:=r,qf:=t,qe:=qe,qd:=qd,qc:=qc,qa:=qa}:Ord)) (by unfold ordV ordL;simp[results,results112,go_sem,u0,u1,u2,u3,u4,u5,u6,u7]) rfl ⟨rfl,c4,?_,?_⟩
  ·exact HR4.o.keep (λj hj=>hfrn.block j (HR4.o.lt j hj) (λe=>hnr4 (by rw[←(show j=gr from e)];exact hj)))
  ·exact⟨HS4.o.fr.trans hfrn (λi hi e=>by have e:i=gr:=e;have:=HG.o.2;omega),HS4.o.sub,HS4.o.bytes,HS4.o.have_,HS4.o.opn⟩
 ·have hFA:Fr (λj=>j=W.heap.size) w2 ((((((((w2.setCell ⟨W.heap.size,0,none⟩ (.int .i64 0)).setCell ⟨W.heap.size,1,none⟩ (.int .i64 0)).setCell ⟨W.heap.size,2,none⟩ (.int .u32 r)).setCell ⟨W.heap.size,3,none⟩ (.int .u32 t)).setCell ⟨W.heap.size,4,none⟩ (.int .u8 qe.toNat)).setCell ⟨W.heap.size,5,none⟩ (.int .u8 qd)).setCell ⟨W.heap.size,6,none⟩ (.int .u16 qc)).setCell ⟨W.heap.size,7,none⟩ (.int .u16 qa)):=XA W.heap.size (ordL 0 0 ({ref:=r,qf:=t,qe:=qe,qd:=qd,qc:=qc,qa:=qa}:Ord)) 0 w2;have hgr2:gr<w2.heap.size:=by have:=hS2.out.fr.size;have:=HVS.o.1;omega
  have hbA:((((((((w2.setCell ⟨W.heap.size,0,none⟩ (.int .i64 0)).setCell ⟨W.heap.size,1,none⟩ (.int .i64 0)).setCell ⟨W.heap.size,2,none⟩ (.int .u32 r)).setCell ⟨W.heap.size,3,none⟩ (.int .u32 t)).setCell ⟨W.heap.size,4,none⟩ (.int .u8 qe.toNat)).setCell ⟨W.heap.size,5,none⟩ (.int .u8 qd)).setCell ⟨W.heap.size,6,none⟩ (.int .u16 qc)).setCell ⟨W.heap.size,7,none⟩ (.int .u16 qa)).heap[W.heap.size]?=some (.cells (ordL 0 0 ({ref:=r,qf:=t,qe:=qe,qd:=qd,qc:=qc,qa:=qa}:Ord)).toArray 108):=by rw[(Zi _ W.heap.size 7 _ _ _ (Zi _ W.heap.size 6 _ _ _ (Zi _ W.heap.size 5 _ _ _ (Zi _ W.heap.size 4 _ _ _ (Zi _ W.heap.size 3 _ _ _ (Zi _ W.heap.size 2 _ _ _ (Zi _ W.heap.size 1 _ _ _ (Zi _ W.heap.size 0 _ _ _ hbo2.out))))))))];rfl
  obtain⟨bo,hbo⟩:=Za (W.heap.size);have nG:∀g,g<VB.heap.size→¬GB b c k g→¬GB b c2 k g:=λg hg hn e=>(hS2.out.sub g e).elim hn (λe=>by omega);have hnb:¬GB b c2 k W.heap.size:=nG _ HVS.o.1 hnGo;have hR2':Rel ((((((((w2.setCell ⟨W.heap.size,0,none⟩ (.int .i64 0)).setCell ⟨W.heap.size,1,none⟩ (.int .i64 0)).setCell ⟨W.heap.size,2,none⟩ (.int .u32 r)).setCell ⟨W.heap.size,3,none⟩ (.int .u32 t)).setCell ⟨W.heap.size,4,none⟩ (.int .u8 qe.toNat)).setCell ⟨W.heap.size,5,none⟩ (.int .u8 qd)).setCell ⟨W.heap.size,6,none⟩ (.int .u16 qc)).setCell ⟨W.heap.size,7,none⟩ (.int .u16 qa)) b c2 k _:=hR2.out.keep (λj hj=>hFA.block j (hR2.out.lt j hj) (λe=>hnb (by rw[←(show j=W.heap.size from e)];exact hj)));have hS1:=(Stp.quiet HFW.o).trans (((Stp.quiet HFB.o)).trans hS2.out);have hS2':Stp w b c k ((((((((w2.setCell ⟨W.heap.size,0,none⟩ (.int .i64 0)).setCell ⟨W.heap.size,1,none⟩ (.int .i64 0)).setCell ⟨W.heap.size,2,none⟩ (.int .u32 r)).setCell ⟨W.heap.size,3,none⟩ (.int .u32 t)).setCell ⟨W.heap.size,4,none⟩ (.int .u8 qe.toNat)).setCell ⟨W.heap.size,5,none⟩ (.int .u8 qd)).setCell ⟨W.heap.size,6,none⟩ (.int .u16 qc)).setCell ⟨W.heap.size,7,none⟩ (.int .u16 qa)) c2:=⟨hS1.fr.trans hFA (λi hi e=>by have e:i=W.heap.size:=e;have:=HFW.o.size;omega),hS1.sub,hS1.bytes,hS1.have_,hS1.opn⟩;have h5':=hFA.cell hp5 hnm;have hr':((((((((w2.setCell ⟨W.heap.size,0,none⟩ (.int .i64 0)).setCell ⟨W.heap.size,1,none⟩ (.int .i64 0)).setCell ⟨W.heap.size,2,none⟩ (.int .u32 r)).setCell ⟨W.heap.size,3,none⟩ (.int .u32 t)).setCell ⟨W.heap.size,4,none⟩ (.int .u8 qe.toNat)).setCell ⟨W.heap.size,5,none⟩ (.int .u8 qd)).setCell ⟨W.heap.size,6,none⟩ (.int .u16 qc)).setCell ⟨W.heap.size,7,none⟩ (.int .u16 qa)).heap[gr]?=some (.cells (ordL 0 0 Xr).toArray 108):=(hFA.block _ hgr2 (λe=>by have e:gr=W.heap.size:=e;omega)).trans ((hS2.out.fr.block gr (by have:=HVS.o.1;omega) HNG.o.2).trans ((HFB.o.block gr hrW (λe=>e)).trans HBR.o));rw[hbo] at hbA hnb ⊢;have e9:((((((((w2.setCell ⟨W.heap.size,0,none⟩ (.int .i64 0)).setCell ⟨W.heap.size,1,none⟩ (.int .i64 0)).setCell ⟨W.heap.size,2,none⟩ (.int .u32 r)).setCell ⟨W.heap.size,3,none⟩ (.int .u32 t)).setCell ⟨W.heap.size,4,none⟩ (.int .u8 qe.toNat)).setCell ⟨W.heap.size,5,none⟩ (.int .u8 qd)).setCell ⟨W.heap.size,6,none⟩ (.int .u16 qc)).setCell ⟨W.heap.size,7,none⟩ (.int .u16 qa))=((((((((w2.setCell ⟨bo,0,none⟩ (.int .i64 0)).setCell ⟨bo,1,none⟩ (.int .i64 0)).setCell ⟨bo,2,none⟩ (.int .u32 r)).setCell ⟨bo,3,none⟩ (.int .u32 t)).setCell ⟨bo,4,none⟩ (.int .u8 qe.toNat)).setCell ⟨bo,5,none⟩ (.int .u8 qd)).setCell ⟨bo,6,none⟩ (.int .u16 qc)).setCell ⟨bo,7,none⟩ (.int .u16 qa)):=by rw[hbo]
  rw[hbo] at hFA hR2' hS2' h5' hr';generalize ((((((((w2.setCell ⟨bo,0,none⟩ (.int .i64 0)).setCell ⟨bo,1,none⟩ (.int .i64 0)).setCell ⟨bo,2,none⟩ (.int .u32 r)).setCell ⟨bo,3,none⟩ (.int .u32 t)).setCell ⟨bo,4,none⟩ (.int .u8 qe.toNat)).setCell ⟨bo,5,none⟩ (.int .u8 qd)).setCell ⟨bo,6,none⟩ (.int .u16 qc)).setCell ⟨bo,7,none⟩ (.int .u16 qa))=V at hFA hbA hR2' hS2' h5' hr' ⊢;have HV:Hid (Rel V b c2 k {st with qg:=r,used:=t::st.used}∧Stp w b c k V c2∧V.heap[bo]?=some (.cells (ordL 0 0 ({ref:=r,qf:=t,qe:=qe,qd:=qd,qc:=qc,qa:=qa}:Ord)).toArray 108)∧V.cell? ⟨gm,5,none⟩=some (.int .u8 kind.toNat)∧V.heap[gr]?=some (.cells (ordL 0 0 Xr).toArray 108)∧¬GB b c2 k bo∧¬GB b c2 k gm∧¬GB b c2 k gr):=⟨hR2',hS2',hbA,h5',hr',hnb,nG gm (by have:=HVS.o.1;omega) HNG.o.1,nG gr (by have:=HVS.o.1;omega) HNG.o.2⟩;clear hFA hbA hR2' hS2' h5' hr' hnb nG x0 x1 x2 x3 x4 x5 x6 x7 fo0 fo1 fo2 fo3 fo4 fo5 fo6 fo7 hS1 e9 hbo2;clear hbo;clear hp0 hp1 hp2 hp3 hp4 hp5 m1 hR2 hS2;obtain⟨hRV,hSV,hbV,h5V,hrV,nbo,nmo,nro⟩:=HV.o;obtain⟨y0,y1,y2,y3,y4,y5,y6,y7⟩:=(Box.of hbV:Box V bo 0 0 ({ref:=r,qf:=t,qe:=qe,qd:=qd,qc:=qc,qa:=qa}:Ord));have HRV:=Zc hRV;have htmv:=hRV.time;have hok:(poOf 0 0 ({ref:=r,qf:=t,qe:=qe,qd:=qd,qc:=qc,qa:=qa}:Ord)).ok:=⟨hrl,ht,hst,hp,hs⟩;have HT:=Zc (UI b c2 st.ans (poOf 0 0 ({ref:=r,qf:=t,qe:=qe,qd:=qd,qc:=qc,qa:=qa}:Ord)) kind V hRV.B hRV.tm.1 hRV.tm.2 hRV.A hRV.dist.ab (by omega) hok);clear hRV hSV hbV hrV nbo nmo nro hok;go_wp2_with fail;refine HT.o.mono ?_;rintro e w4 ⟨rfl,ht4⟩;obtain⟨c4,hR4,hS4,-,-⟩:=HRV.o.tellA (l:=st.head 65++enc t 4++[qe,UInt8.ofNat qd]++enc qc 2++enc qa 2++[kind]++enc r 4) ht4 (by show st.ans++65::enc c2.time 6++enc t 4++[qe]++[UInt8.ofNat qd]++enc qc 2++enc qa 2++[kind]++enc r 4=st.ans++(st.head 65++enc t 4++[qe,UInt8.ofNat qd]++enc qc 2++enc qa 2++[kind]++enc r 4);have htm':c2.time=st.time:=htmv;unfold St.head;rw[htm'];simp)
  obtain⟨hRV,hSV,hbV,h5V',hrV,nbo,nmo,nro⟩:=HV.o;obtain⟨z0,z1,z2,z3,z4,z5,z6,z7⟩:=(Box.of ((hS4.fr.block _ (Ze.1 hbV).1 nbo).trans hbV):Box w4 bo 0 0 ({ref:=r,qf:=t,qe:=qe,qd:=qd,qc:=qc,qa:=qa}:Ord));have hbr4:w4.heap[gr]?=some (.cells (ordL 0 0 Xr).toArray 108):=(hS4.fr.block _ (Ze.1 hrV).1 nro).trans hrV;obtain⟨r0,r1,r2,r3,r4,r5,r6,r7⟩:=(Box.of hbr4:Box w4 gr 0 0 Xr);have fro:∀j,w4.frozen? ⟨gr,j,none⟩=false:=λj=>by simp[World.frozen?,hbr4]
  have fr0:=fro 0;have fr1:=fro 1;have fr2:=fro 2;have fr3:=fro 3;have fr4:=fro 4;have fr5:=fro 5;have fr6:=fro 6;have fr7:=fro 7;have hnr4:¬GB b c4 k gr:=λe=>(hS4.sub gr e).elim nro (λe=>by have:=(Ze.1 hrV).1;omega);have HR4:=Zc hR4;have HS4:Hid (Stp w b c k w4 c4):=hSV.trans hS4;have HBR4:=Zc hbr4;clear fro hbr4 hRV hSV hbV h5V' hrV nbo nmo nro hR4 hS4 ht4 y0 y1 y2 y3 y4 y5 y6 y7 h5V;go_wp2_with fail;have hbr4:=HBR4.o;have hfin:((((((((w4.setCell ⟨gr,0,none⟩ (.int .i64 0)).setCell ⟨gr,1,none⟩ (.int .i64 0)).setCell ⟨gr,2,none⟩ (.int .u32 r)).setCell ⟨gr,3,none⟩ (.int .u32 t)).setCell ⟨gr,4,none⟩ (.int .u8 qe.toNat)).setCell ⟨gr,5,none⟩ (.int .u8 qd)).setCell ⟨gr,6,none⟩ (.int .u16 qc)).setCell ⟨gr,7,none⟩ (.int .u16 qa)).heap[gr]?=some (.cells (ordL 0 0 ({ref:=r,qf:=t,qe:=qe,qd:=qd,qc:=qc,qa:=qa}:Ord)).toArray 108):=by rw[(Zi _ gr 7 _ _ _ (Zi _ gr 6 _ _ _ (Zi _ gr 5 _ _ _ (Zi _ gr 4 _ _ _ (Zi _ gr 3 _ _ _ (Zi _ gr 2 _ _ _ (Zi _ gr 1 _ _ _ (Zi _ gr 0 _ _ _ hbr4))))))))];rfl
  have hfrn:Fr (λj=>j=gr) w4 ((((((((w4.setCell ⟨gr,0,none⟩ (.int .i64 0)).setCell ⟨gr,1,none⟩ (.int .i64 0)).setCell ⟨gr,2,none⟩ (.int .u32 r)).setCell ⟨gr,3,none⟩ (.int .u32 t)).setCell ⟨gr,4,none⟩ (.int .u8 qe.toNat)).setCell ⟨gr,5,none⟩ (.int .u8 qd)).setCell ⟨gr,6,none⟩ (.int .u16 qc)).setCell ⟨gr,7,none⟩ (.int .u16 qa)):=XA gr (ordL 0 0 ({ref:=r,qf:=t,qe:=qe,qd:=qd,qc:=qc,qa:=qa}:Ord)) 0 w4;generalize ((((((((w4.setCell ⟨gr,0,none⟩ (.int .i64 0)).setCell ⟨gr,1,none⟩ (.int .i64 0)).setCell ⟨gr,2,none⟩ (.int .u32 r)).setCell ⟨gr,3,none⟩ (.int .u32 t)).setCell ⟨gr,4,none⟩ (.int .u8 qe.toNat)).setCell ⟨gr,5,none⟩ (.int .u8 qd)).setCell ⟨gr,6,none⟩ (.int .u16 qc)).setCell ⟨gr,7,none⟩ (.int .u16 qa))=w9 at hfin hfrn ⊢;obtain⟨u0,u1,u2,u3,u4,u5,u6,u7⟩:=(Box.of hfin:Box w9 gr 0 0 ({ref:=r,qf:=t,qe:=qe,qd:=qd,qc:=qc,qa:=qa}:Ord));refine ZC (v:=ordV 0 0 ({ref:=r,qf:=t,qe:=qe,qd:=qd,qc:=qc,qa:=qa}:Ord)) (by unfold ordV ordL;simp[results,results112,go_sem,u0,u1,u2,u3,u4,u5,u6,u7]) rfl ⟨rfl,c4,?_,?_⟩
  ·exact HR4.o.keep (λj hj=>hfrn.block j (HR4.o.lt j hj) (λe=>hnr4 (by rw[←(show j=gr from e)];exact hj)))
  ·exact⟨HS4.o.fr.trans hfrn (λi hi e=>by have e:i=gr:=e;have:=HG.o.2;omega),HS4.o.sub,HS4.o.bytes,HS4.o.have_,HS4.o.opn⟩
end
end Go.Proofs.YtphkchjejbffeaaGreat
