/- JI, JJ, JK, JL, JM -/
import Derived.Test.YtphkchjejbffeaaGreatK09
import Derived.Laws.MakeOwn
import Derived.Maps.OwnSet
import Derived.DataShut
set_option maxHeartbeats 16000000
set_option maxRecDepth 100000
namespace Go.Proofs.YtphkchjejbffeaaGreat
open Tryz
open Go.RowKit
variable {c:BC}{b bk i l m n pl pm po s:Nat}{ln:Nat→Nat}{M:Nat→Option Nat}{k:SK}{st:St}{w w' wr:World}
section
open Go.RowKit
attribute [local go_sem ↓] Go.wp_at_zero Go.wp_at_succ
def aftN (n p i:Nat):Nat:=if p≤i∧i<n then i+1 else 0
theorem Zkm (n:Nat):madeCells (ordV 0 0 Xr).cells (n*8)=Xv n 8 (XQ (λ_=>0) (λ_=>0) (λ_=>Xr)):=by
 apply Array.ext
 ·simp[madeCells,Xv]
 ·intro i h1 h2;have hi:i%8<8:=by omega
  simp only[madeCells,Xv,Array.getElem_ofFn];have hs:(ordV 0 0 Xr).cells.size=8:=rfl;generalize hj:i%8=j at hi
  match j,hi with
  | 0,_=>simp[hs,hj];rfl
  | 1,_=>simp[hs,hj];rfl
  | 2,_=>simp[hs,hj];rfl
  | 3,_=>simp[hs,hj];rfl
  | 4,_=>simp[hs,hj];rfl
  | 5,_=>simp[hs,hj];rfl
  | 6,_=>simp[hs,hj];rfl
  | 7,_=>simp[hs,hj];rfl
theorem Zgk (n:Nat)(w:World)(h1:1≤n)(h2:n≤64):
  Calls prog 83 #[.int .i64 n] w λe w'=>∃po,w.heap.size≤po∧e=.returned (.agg #[.slice (some ⟨po,0,none⟩) (n+1) (n+1),.int .i64 1,.int .i64 0])∧
   IsP w' po (n+1) (λ_=>0) (aftN n 1) (λ_=>Xr)∧Below w.heap.size w w':=by
 obtain⟨m,hm⟩:∃m,m=n+1:=⟨_,rfl⟩;rw[←hm];obtain⟨i0,hi,hz0,hz1,hz2⟩:=info_parts infoOrd;have hmk:∀w:World,(Instr.makeSlice 63 (.int .i64 ((n:Int)+1)) (.int .i64 ((n:Int)+1))).run prog w=.ok (.slice (some ⟨w.heap.size,0,none⟩) m m) (w.alloc (.cells (Xv m 8 (XQ (λ_=>0) (λ_=>0) (λ_=>Xr))) 108)):=by intro w;have:=run_make (P:=prog) w 63 108 i0 (ordV 0 0 Xr) QD hi hz0 .i64 .i64 m m (by omega) (by omega) (by rw[hz2];omega) (by omega);rw[hz1,Yz,Zkm] at this;rw[show((n:Int)+1)=(m:Int) by omega];exact this
 have wm:IntKind.i64.wrap ((n:Int)+1)=(n:Int)+1:=by rw[Zq];omega
 have HM:=Zc hm;clear hm;go_enter func83,ntmps83;go_wp2_with fail;obtain⟨po,hpo⟩:∃po,po=w.heap.size+1:=⟨_,rfl⟩;obtain⟨pb,hpb⟩:∃pb,pb=w.heap.size+1+1:=⟨_,rfl⟩;rw[←hpb,←hpo];generalize hW:(World.alloc _ (Obj.cells #[Value.slice (some ⟨po,0,none⟩) m m,Value.int .i64 0,Value.int .i64 0] 125))=W;have hBW:Hid (Below w.heap.size w W):=by rw[←hW];exact(((Zm _ _).alloc (Zh _) _).alloc (by rw[Xb];omega) _).alloc (by rw[Xb,Xb];omega) _
 have hsW:W.heap.size=w.heap.size+3:=by rw[←hW,Xb,Xb,Xb]
 have hRW:W.heap[w.heap.size]?=some (.cells #[.slice none 0 0,.int .i64 0,.int .i64 0] 125):=by rw[←hW,YX,Zj (by rw[Xb,Xb];omega),YX,Zj (by rw[Xb];omega),YX,Zg rfl]
 have hPW:IsP W po m (λ_=>0) (aftN n (n+1)) (λ_=>Xr):=by
  have e:aftN n (n+1)=λ_=>0:=by
   funext i
   unfold aftN;rw[Zj (by omega)]
  rw[e];refine⟨?_⟩;rw[←hW,YX,Zj (by rw[Xb,Xb];omega),YX,Zg (by rw[Xb];omega)]
 have hBX:W.heap[pb]?=some (.cells #[.slice (some ⟨po,0,none⟩) m m,.int .i64 0,.int .i64 0] 125):=by rw[←hW,YX,Zg (by rw[Xb,Xb];omega)]
 clear hW;have npo:pb≠po:=by omega
 have nr1:w.heap.size≠po:=by omega
 have nr2:w.heap.size≠pb:=by omega
 have HPO:=Zc (Zd hpo hpb);clear hpo hpb;have i1m:(n:Int)<(m:Int):=by have:=HM.o;omega
 go_loopw [4] (λi wr=>∃j f:Nat,j≤n∧(f=if j<n then j+1 else 0)∧i=.int .i64 j∧Hid (Below w.heap.size w wr∧wr.heap[w.heap.size]?=some (.cells #[.slice none 0 0,.int .i64 0,.int .i64 0] 125)∧IsP wr po m (λ_=>0) (aftN n (j+1)) (λ_=>Xr)∧wr.heap[pb]?=some (.cells #[.slice (some ⟨po,0,none⟩) m m,.int .i64 f,.int .i64 0] 125))) (λi _=>(intOf i).toNat)
 case atStart=>exact⟨n,0,Zh _,by rw[Zj (by omega)],rfl,hBW.out,hRW,hPW,hBX⟩
 case round=>
  obtain⟨j,f,hj,hf,rfl,hrel⟩:=hrel;clear hBW hRW hPW hBX;obtain⟨hB,hR,hP,hX⟩:=hrel.out;clear hrel;have g0:wr.cell? ⟨pb,0,none⟩=some (.slice (some ⟨po,0,none⟩) m m):=by rw[Zk wr pb 0 _ _ (0,0) hX];rfl
  have g1:wr.cell? ⟨pb,1,none⟩=some (.int .i64 f):=by rw[Zk wr pb 1 _ _ (0,0) hX];rfl
  have g2:wr.cell? ⟨pb,2,none⟩=some (.int .i64 0):=by rw[Zk wr pb 2 _ _ (0,0) hX];rfl
  have HF:=Zc hf;have HH:=Zc (Zd hB (Zd hR (Zd hP hX)));clear hf;by_cases h0:0<j
  ·have b1:(0:Int)<(j:Int):=by omega
   have i1:(j:Int)<(m:Int):=by omega
   have hjm:j<m:=by have:=HM.o;omega
   clear hB hR hP hX;go_wp2_with fail;go_region_held3 (λw'=>w'.cell? ⟨pb,0,none⟩=some (.slice (some ⟨po,0,none⟩) m m)∧w'.cell? ⟨pb,1,none⟩=some (.int .i64 f)) (first|exact⟨m1,m2⟩|go_keep)
    ((go_at_call 106;refine(Vj po m j f _ _ _ wr.drew ⟨HH.o.2.2.1.blk⟩ hjm).mono ?_;rintro e w3 ⟨rfl,hp3,hf3⟩;have m1:=hf3.out.cell (w:=wr.drew) g0 npo;have m2:=hf3.out.cell (w:=wr.drew) g1 npo))
   have hX3:Hid (w3.heap[pb]?=some (.cells #[.slice (some ⟨po,0,none⟩) m m,.int .i64 f,.int .i64 0] 125)):=by have h:=HH.o.2.2.2;exact(hf3.out.block pb (show pb<wr.drew.heap.size from(Ze.1 h).1) npo).trans h
   have fz:w3.frozen? ⟨pb,1,none⟩=false:=by have h:=hX3.out;simp[World.frozen?,h]
   have wj:IntKind.i64.wrap ((j:Int)-1)=(j:Int)-1:=by rw[Zq];omega
   go_wp2_with fail;refine⟨⟨j-1,j,by omega,by rw[Zg (by omega)];omega,by go_num,?_⟩,by simp[intOf];omega⟩;have hfr:Fr (λk=>k=pb) w3 (w3.setCell ⟨pb,1,none⟩ (.int .i64 j)):=Fr.setCell w3 ⟨pb,1,none⟩ _;obtain⟨hB,hR,hP,hX⟩:=HH.o;have hsz:w.heap.size≤wr.heap.size:=hB.size;refine⟨?_,?_,?_,?_⟩
   ·have hp':=HPO.o.1;have hp2:=HPO.o.2;exact((hB.drew).trans (hf3.out.below (w:=wr.drew) hsz (λk e=>by have e:k=po:=e;omega))).trans (hfr.below (by have:=hf3.out.size;exact Zw hsz this) (λk e=>by have e:k=pb:=e;omega))
   ·have hl:w.heap.size<wr.heap.size:=(Ze.1 hR).1;exact(hfr.block _ (Zn hl hf3.out.size) nr2).trans ((hf3.out.block _ hl nr1).trans hR)
   ·have e:updN (aftN n (j+1)) j f=aftN n (j-1+1):=by
     funext i
     have hf:=HF.o;unfold updN aftN;rw[show j-1+1=j by omega];by_cases e:i=j
     ·subst e;rw[Zg rfl,hf];by_cases e2:i<n
      ·rw[Zg e2,Zg ⟨Zh _,e2⟩]
      ·rw[Zj e2,Zj (λh=>e2 h.2)]
     ·rw[Zj e];by_cases e2:j+1≤i∧i<n
      ·rw[Zg e2,Zg ⟨by omega,e2.2⟩]
      ·rw[Zj e2,Zj (λh=>e2 ⟨by omega,h.2⟩)]
    rw[←e];exact hp3.out.keep (hfr.block po hp3.out.lt (Ne.symm npo))
   ·rw[Zi w3 pb 1 _ _ _ hX3.out];rfl
  ·have hj0:j=0:=by omega
   have b1:¬((0:Int)<(j:Int)):=by omega
   have hf1:f=1:=by rw[HF.o,hj0,Zg (by omega)]
   have fz:∀i,wr.frozen? ⟨w.heap.size,i,none⟩=false:=λi=>by simp[World.frozen?,hR]
   have f0:=fz 0;have f1:=fz 1;have f2:=fz 2;have r0:wr.cell? ⟨w.heap.size,0,none⟩=some (.slice none 0 0):=by rw[Zk wr w.heap.size 0 _ _ (0,0) hR];rfl
   have r1:wr.cell? ⟨w.heap.size,1,none⟩=some (.int .i64 0):=by rw[Zk wr w.heap.size 1 _ _ (0,0) hR];rfl
   have r2:wr.cell? ⟨w.heap.size,2,none⟩=some (.int .i64 0):=by rw[Zk wr w.heap.size 2 _ _ (0,0) hR];rfl
   clear hB hR hP hX fz;subst hf1;have HJ:=Zc hj0;clear hj0;go_wp2_with fail;have hfr:Fr (λk=>k=w.heap.size) wr (((wr.setCell ⟨w.heap.size,0,none⟩ (.slice (some ⟨po,0,none⟩) m m)).setCell ⟨w.heap.size,1,none⟩ (.int .i64 1)).setCell ⟨w.heap.size,2,none⟩ (.int .i64 0)):=
    (Fr.setCell wr ⟨w.heap.size,0,none⟩ _).trans ((Fr.setCell _ ⟨w.heap.size,1,none⟩ _).trans (Fr.setCell _ ⟨w.heap.size,2,none⟩ _) (λ_ _ h=>h)) (λ_ _ h=>h)
   have hblk:(((wr.setCell ⟨w.heap.size,0,none⟩ (.slice (some ⟨po,0,none⟩) m m)).setCell ⟨w.heap.size,1,none⟩ (.int .i64 1)).setCell ⟨w.heap.size,2,none⟩ (.int .i64 0)).heap[w.heap.size]?=some (.cells #[.slice (some ⟨po,0,none⟩) m m,.int .i64 1,.int .i64 0] 125):=by rw[Zi _ w.heap.size 2 _ _ _ (Zi _ w.heap.size 1 _ _ _ (Zi wr w.heap.size 0 _ _ _ HH.o.2.1))];rfl
   generalize (((wr.setCell ⟨w.heap.size,0,none⟩ (.slice (some ⟨po,0,none⟩) m m)).setCell ⟨w.heap.size,1,none⟩ (.int .i64 1)).setCell ⟨w.heap.size,2,none⟩ (.int .i64 0))=w9 at hfr hblk ⊢;have c0:w9.cell? ⟨w.heap.size,0,none⟩=some (.slice (some ⟨po,0,none⟩) m m):=by rw[Zk w9 w.heap.size 0 _ _ (0,0) hblk];rfl
   have c1:w9.cell? ⟨w.heap.size,1,none⟩=some (.int .i64 1):=by rw[Zk w9 w.heap.size 1 _ _ (0,0) hblk];rfl
   have c2:w9.cell? ⟨w.heap.size,2,none⟩=some (.int .i64 0):=by rw[Zk w9 w.heap.size 2 _ _ (0,0) hblk];rfl
   obtain⟨hB,hR,hP,hX⟩:=HH.o;have hsz:w.heap.size≤wr.heap.size:=hB.size;have hp1:=HPO.o.1;refine ZC (v:=.agg #[.slice (some ⟨po,0,none⟩) m m,.int .i64 1,.int .i64 0]) (by simp[results,results83,go_sem,c0,c1,c2]) rfl ⟨po,by omega,rfl,?_,?_⟩
   ·have:aftN n (j+1)=aftN n 1:=by rw[HJ.o]
    rw[←this];exact hP.keep (hfr.block po hP.lt (Ne.symm nr1))
   ·exact hB.trans (hfr.below hsz (λk e=>by have e:k=w.heap.size:=e;omega))
theorem infoLine :(prog.info? 134).map (λi=>(i.zero,i.size,i.bytes))=some (some (.agg #[.int .i64 0,.int .i64 0]),2,16):=by kernel_rfl
theorem infoTwo :(prog.info? 152).map (λi=>(i.zero,i.size,i.bytes))=some (some (.agg #[.slice none 0 0,.slice none 0 0]),2,48):=by kernel_rfl
theorem Zkj :prog.underlying 151=some (.slice 134):=by kernel_rfl
theorem und_twos :prog.underlying 126=some (.slice 152):=by kernel_rfl
theorem Zgu (a:Value)(n:Nat)(f:Nat→Nat→Value)(hf:∀x j,f x j=a):madeCells #[a,a] (n*2)=Xv n 2 f:=by
 apply Array.ext
 ·simp[madeCells,Xv]
 ·intro i h1 h2;have hi:i%2=0∨i%2=1:=by omega
  simp only[madeCells,Xv,Array.getElem_ofFn,hf];rcases hi with hi|hi<;>simp[hi]
theorem Zj7 (n m:Nat)(w:World)(h1:1≤n)(h2:n≤64)(hm:n+1=m):
  Calls prog 83 #[.int .i64 n] w λe w'=>∃po,w.heap.size≤po∧e=.returned (.agg #[.slice (some ⟨po,0,none⟩) m m,.int .i64 1,.int .i64 0])∧
   IsP w' po m (λ_=>0) (aftN n 1) (λ_=>Xr)∧Below w.heap.size w w':=by
 subst hm;exact Zgk n w h1 h2
def tabF (ln:Nat→Nat)(L m:Nat)(s i:Nat):Value:=if s<m then .slice (some ⟨ln (s*2+i),0,none⟩) L L else .slice none 0 0
structure NewL (w wr:World)(bk po pl l s m n i:Nat)(ln:Nat→Nat):Prop where
 below:Below w.heap.size w wr
 K:IsK wr bk {po:=po,n:=m,free:=1,taken:=0,qj:=l,pl:=pl,qk:=s}
 P:IsP wr po m (λ_=>0) (aftN n 1) (λ_=>Xr)
 T:wr.heap[pl]?=some (.cells (Xv s 2 (tabF ln l i)) 152)
 L:∀j,j<i*2→IsL wr (ln j) l (λ_=>0) (λ_=>0)∧w.heap.size≤ln j∧ln j≠bk∧ln j≠po∧ln j≠pl
 inj:∀j j',j<i*2→j'<i*2→ln j=ln j'→j=j'
theorem NewL.step {W:World}(h:NewL w wr bk po pl l s m n i ln)(hi:i<s)(n1:po≠pl)(n2:bk≠pl)(hpl:w.heap.size≤pl)(a b:Nat)(ha:wr.heap.size≤a)(hb:wr.heap.size≤b)(hab:a≠b)(hf:Fr (λk=>k=pl) wr W)
  (hA:IsL W a l (λ_=>0) (λ_=>0)) (hB:IsL W b l (λ_=>0) (λ_=>0))
  (hT:W.heap[pl]?=some (.cells (((Xv s 2 (tabF ln l i)).setIfInBounds (i*2) (.slice (some ⟨a,0,none⟩) l l)).setIfInBounds (i*2+1) (.slice (some ⟨b,0,none⟩) l l)) 152)):
  NewL w W bk po pl l s m n (i+1) (updN (updN ln (i*2) a) (i*2+1) b):=by
 have hsz:=h.below.size;have hkl:=h.K.lt;have hpl2:=h.P.lt;have htl:pl<wr.heap.size:=(Ze.1 h.T).1;have old:∀j,j<i*2→updN (updN ln (i*2) a) (i*2+1) b j=ln j:=λj hj=>by rw[Xj _ _ _ _ (by omega),Xj _ _ _ _ (by omega)]
 have ea:updN (updN ln (i*2) a) (i*2+1) b (i*2)=a:=by rw[Xj _ _ _ _ (by omega),Xk]
 have eb:updN (updN ln (i*2) a) (i*2+1) b (i*2+1)=b:=Xk _ _ _;have lt:∀j,j<i*2→ln j<wr.heap.size:=λj hj=>(h.L j hj).1.lt;have split:∀j,j<(i+1)*2→j<i*2∨j=i*2∨j=i*2+1:=λj hj=>by omega
 refine⟨h.below.trans (hf.below hsz (λk e=>by have e:k=pl:=e;omega)),⟨(hf.block bk hkl n2).trans h.K.blk⟩,⟨(hf.block po hpl2 n1).trans h.P.blk⟩,?_,?_,?_⟩
 ·rw[hT];have e1:=Vv s 2 (tabF ln l i) i 0 (by omega) (.slice (some ⟨a,0,none⟩) l l);rw[Nat.add_zero] at e1;rw[e1,Vv s 2 _ i 1 (by omega)]
  congr 2
  unfold Xv
  congr 1
  funext x
  have hx:x.val%2=0∨x.val%2=1:=by omega
  generalize x.val / 2=y;unfold tabF;dsimp only;by_cases e:y=i
  ·subst e;rcases hx with hx|hx
   ·rw[hx,show y*2+0=y*2 from rfl,ea];simp
   ·rw[hx,eb];simp
  ·by_cases e2:y<i
   ·rw[Zg (show y<i+1 by omega),old _ (by omega)];simp[e,e2]
   ·rw[Zj (show ¬y<i+1 by omega)];simp[e,e2]
 ·intro j hj;rcases split j hj with hj|rfl|rfl
  ·rw[old j hj];obtain⟨l1,l2,l3,l4,l5⟩:=h.L j hj;exact⟨⟨(hf.block _ l1.lt l5).trans l1.blk⟩,l2,l3,l4,l5⟩
  ·rw[ea];exact⟨hA,by omega,by omega,by omega,by omega⟩
  ·rw[eb];exact⟨hB,by omega,by omega,by omega,by omega⟩
 ·intro j j' hj hj' e;rcases split j hj with hj|rfl|rfl<;>rcases split j' hj' with hj'|rfl|rfl
  ·rw[old j hj,old j' hj'] at e;exact h.inj j j' hj hj' e
  ·rw[old j hj,ea] at e;have:=lt j hj;omega
  ·rw[old j hj,eb] at e;have:=lt j hj;omega
  ·rw[old j' hj',ea] at e;have:=lt j' hj';omega
  ·rfl
  ·rw[ea,eb] at e;exact absurd e hab
  ·rw[old j' hj',eb] at e;have:=lt j' hj';omega
  ·rw[ea,eb] at e;exact absurd e.symm hab
  ·rfl
theorem NewL.made (h:NewL w wr bk po pl l s m n i ln)(hi:i<s)(n1:po≠pl)(n2:bk≠pl)(hpl:w.heap.size≤pl)(a b:Nat)(hab:(a=wr.heap.size∧b=wr.heap.size+1)∨(a=wr.heap.size+1∧b=wr.heap.size)):
  NewL w ((((wr.setCell ⟨pl,i*2,none⟩ (.slice (some ⟨a,0,none⟩) l l)).setCell ⟨pl,i*2+1,none⟩ (.slice (some ⟨b,0,none⟩) l l)).alloc (.cells (Xv l 2 (UM (λ_=>0) (λ_=>0))) 134)).alloc (.cells (Xv l 2 (UM (λ_=>0) (λ_=>0))) 134)) bk po pl l s m n (i+1) (updN (updN ln (i*2) a) (i*2+1) b):=by
 have htl:pl<wr.heap.size:=(Ze.1 h.T).1;generalize hO:Obj.cells (Xv l 2 (UM (λ_=>0) (λ_=>0))) 134=O;have fr1:Fr (λk=>k=pl) wr ((wr.setCell ⟨pl,i*2,none⟩ (.slice (some ⟨a,0,none⟩) l l)).setCell ⟨pl,i*2+1,none⟩ (.slice (some ⟨b,0,none⟩) l l)):=(Fr.setCell _ ⟨pl,i*2,none⟩ _).trans (Fr.setCell _ ⟨pl,i*2+1,none⟩ _) (λ_ _ h=>h);have bT:((wr.setCell ⟨pl,i*2,none⟩ (.slice (some ⟨a,0,none⟩) l l)).setCell ⟨pl,i*2+1,none⟩ (.slice (some ⟨b,0,none⟩) l l)).heap[pl]?=_:=Zi _ pl (i*2+1) _ _ _ (Zi wr pl (i*2) _ _ _ h.T);have ss:((wr.setCell ⟨pl,i*2,none⟩ (.slice (some ⟨a,0,none⟩) l l)).setCell ⟨pl,i*2+1,none⟩ (.slice (some ⟨b,0,none⟩) l l)).heap.size=wr.heap.size:=by simp[World.setCell]
 generalize (wr.setCell ⟨pl,i*2,none⟩ (.slice (some ⟨a,0,none⟩) l l)).setCell ⟨pl,i*2+1,none⟩ (.slice (some ⟨b,0,none⟩) l l)=V at fr1 bT ss ⊢;have fr2:Fr (λk=>k=pl) V ((V.alloc O).alloc O):=(Fr.alloc _ V O).trans (Fr.alloc _ _ O) (λ_ _ h=>h);have b1:((V.alloc O).alloc O).heap[wr.heap.size]?=some O:=by rw[←ss,YX,Zj (by rw[Xb];omega),YX,Zg rfl]
 have b2:((V.alloc O).alloc O).heap[wr.heap.size+1]?=some O:=by rw[←ss,YX,Zg (by rw[Xb])]
 refine h.step hi n1 n2 hpl a b (by omega) (by omega) (by omega) (fr1.trans fr2 (λ_ _ h=>h)) ⟨?_⟩ ⟨?_⟩ ?_
 ·rw[hO];rcases hab with⟨rfl,-⟩|⟨rfl,-⟩
  ·exact b1
  ·exact b2
 ·rw[hO];rcases hab with⟨-,rfl⟩|⟨-,rfl⟩
  ·exact b2
  ·exact b1
 ·rw[YX,Zj (by rw[Xb];omega),YX,Zj (by omega)];exact bT
theorem NewL.drew (h:NewL w wr bk po pl l s m n i ln):NewL w wr.drew bk po pl l s m n i ln:=
 ⟨h.below.drew,⟨h.K.blk⟩,⟨h.P.blk⟩,h.T,λj hj=>⟨⟨(h.L j hj).1.blk⟩,(h.L j hj).2⟩,h.inj⟩
theorem NewL.done (h:NewL w wr bk po pl l s m n s ln)(hm:n+1=m)(hn:n≤64)(hs:s≤8)(hl:l≤64)(h1:w.heap.size≤po)(h2:w.heap.size≤pl)(h3:w.heap.size≤bk)(h4:po≠pl)(h5:bk≠pl)(h6:bk≠po):
  (⟨bk,po,pl,m,s,l,ln⟩:SK).ok∧(∀j,(⟨bk,po,pl,m,s,l,ln⟩:SK).F j→w.heap.size≤j)∧IsBk wr ⟨bk,po,pl,m,s,l,ln⟩ 1 0 (λ_ _=>0) (λ_ _=>0) (λ_=>0) (aftN n 1) (λ_=>Xr):=by
 refine⟨⟨h6,h5,h4,λj hj=>(h.L j hj).2.2.1,λj hj=>(h.L j hj).2.2.2.1,λj hj=>(h.L j hj).2.2.2.2,λi j hi hj e=>h.inj i j hi hj e,⟨by show 1≤m;omega,by show m≤65;omega⟩,hs,hl⟩,?_,⟨h.K,h.P,?_,λj hj=>(h.L j hj).1⟩⟩
 ·rintro j (rfl|rfl|rfl|⟨i,hi,rfl⟩)
  ·exact h3
  ·exact h1
  ·exact h2
  ·exact(h.L i hi).2.1
 ·have e:Xv s 2 (tabF ln l s)=Xv s 2 (λs i=>.slice (some ⟨ln (s*2+i),0,none⟩) l l):=by
   unfold Xv
   congr 1
   funext x
   unfold tabF;rw[Zg];have:=x.isLt;omega
  show wr.heap[pl]?=some (.cells (Xv s 2 (λs i=>.slice (some ⟨ln (s*2+i),0,none⟩) l l)) 152);rw[h.T,e]
theorem Zfu (s l n:Nat)(w:World)(hs:1≤s∧s≤8)(hl:1≤l∧l≤64)(hn:1≤n∧n≤64):
  Calls prog 58 #[.int .i64 s,.int .i64 l,.int .i64 n] w λe w'=>∃k:SK,e=.returned (.pointer (some ⟨k.bk,0,none⟩))∧k.n=n+1∧k.S=s∧k.L=l∧k.ok∧(∀j,k.F j→w.heap.size≤j)∧
   IsBk w' k 1 0 (λ_ _=>0) (λ_ _=>0) (λ_=>0) (aftN n 1) (λ_=>Xr)∧Below w.heap.size w w':=by
 obtain⟨i0,hi,hz0,hz1,hz2⟩:=info_parts infoLine;obtain⟨i1,hi1,hy0,hy1,hy2⟩:=info_parts infoTwo;have hmk1:∀w:World,(Instr.makeSlice 151 (.int .i64 l) (.int .i64 l)).run prog w=.ok (.slice (some ⟨w.heap.size,0,none⟩) l l) (w.alloc (.cells (Xv l 2 (UM (λ_=>0) (λ_=>0))) 134)):=by intro w;have:=run_make (P:=prog) w 151 134 i0 _ Zkj hi hz0 .i64 .i64 l l (by omega) (by omega) (by rw[hz2];omega) (by omega);rw[hz1,Yz,show(Value.agg #[.int .i64 0,.int .i64 0]).cells=#[.int .i64 0,.int .i64 0] from rfl,Zgu (.int .i64 0) l (UM (λ_=>0) (λ_=>0)) (λx j=>by cases j<;>rfl)] at this;exact this
 have hmk2:∀w:World,(Instr.makeSlice 126 (.int .i64 s) (.int .i64 s)).run prog w=.ok (.slice (some ⟨w.heap.size,0,none⟩) s s) (w.alloc (.cells (Xv s 2 (λ_ _=>.slice none 0 0)) 152)):=by intro w;have:=run_make (P:=prog) w 126 152 i1 _ und_twos hi1 hy0 .i64 .i64 s s (by omega) (by omega) (by rw[hy2];omega) (by omega);rw[hy1,Yz,show(Value.agg #[.slice none 0 0,.slice none 0 0]).cells=#[.slice none 0 0,.slice none 0 0] from rfl,Zgu (.slice none 0 0) s (λ_ _=>.slice none 0 0) (λx j=>rfl)] at this;exact this
 obtain⟨m,hm⟩:=Za (n+1);have HM:=Zc hm;rw[hm];clear hm;go_enter func58,ntmps58;go_wp2_with fail;go_region_held3 (λ_=>True) (trivial) ((go_at_call 83;refine(Zj7 n m _ hn.1 hn.2 HM.o).mono ?_;rintro e w1 ⟨po,hpo,rfl,hp1,hb1⟩))
 ·have hpl1:=hp1.lt;have hbs:=hb1.size;have hpo':w.heap.size≤po:=hpo;have hbs':w.heap.size≤w1.heap.size:=hbs;obtain⟨pl,hpl⟩:=Za (w1.heap.size);obtain⟨bk,hbk⟩:=Za (w1.heap.size+1);rw[hbk,hpl];generalize hW:(World.alloc _ (Obj.cells #[Value.slice (some ⟨po,0,none⟩) m m,Value.int .i64 1,Value.int .i64 0,Value.int .i64 l,Value.slice (some ⟨pl,0,none⟩) s s] 128))=W;have H1:Hid (Below w.heap.size w W):=by rw[←hW];exact(((show Below w.heap.size w w1 from⟨hb1.os,hb1.tape,hb1.output,hbs',hb1.block⟩).alloc hbs' _).alloc (by rw[Xb];omega) _)
  have H2:Hid (IsK W bk {po:=po,n:=m,free:=1,taken:=0,qj:=l,pl:=pl,qk:=s}):=⟨by rw[←hW,YX,Zg (by rw[Xb];omega)];rfl⟩;have H3:Hid (IsP W po m (λ_=>0) (aftN n 1) (λ_=>Xr)):=hp1.keep (by rw[←hW,YX,Zj (by rw[Xb];omega),YX,Zj (by omega)]);have H4:Hid (W.heap[pl]?=some (.cells (Xv s 2 (λ_ _=>.slice none 0 0)) 152)):=by show _=_;rw[←hW,YX,Zj (by rw[Xb];omega),YX,Zg (by omega)]
  have H5:Hid (w.heap.size≤po∧w.heap.size≤pl∧w.heap.size≤bk∧po≠pl∧bk≠pl∧bk≠po):=⟨hpo',by omega,by omega,by omega,by omega,by omega⟩;clear hW hpo hpo' hp1 hb1 hbs hbs' hpl hbk hpl1;obtain⟨h51,h52,h53,h54,h55,h56⟩:=H5.o;have g4:W.cell? ⟨bk,4,none⟩=some (.slice (some ⟨pl,0,none⟩) s s):=H2.o.cell 4;have H0:Hid (NewL w W bk po pl l s m n 0 (λ_=>0)):=⟨H1.o,H2.o,H3.o,by
   rw[H4.o]
   congr 2,λj hj=>absurd hj (by omega),λj _ hj=>absurd hj (by omega)⟩
  clear H1 H2 H3 H4;go_wp2_with fail;clear g4;go_loopw [21] (λi wr=>∃(j:Nat) (ln:Nat→Nat),j≤s∧i=.int .i64 j∧Hid (NewL w wr bk po pl l s m n j ln)) (λi _=>s-(intOf i).toNat)
  case atStart=>exact⟨0,_,Zy _,rfl,H0⟩
  case round=>
   clear H0;obtain⟨j,ln,hj,rfl,HR⟩:=hrel;have g4:wr.cell? ⟨bk,4,none⟩=some (.slice (some ⟨pl,0,none⟩) s s):=HR.o.K.cell 4;by_cases hjs:j<s
   ·have hjs2:(j:Int)<(s:Int):=by omega
    have t0:wr.cell? ⟨pl,j*2,none⟩=some (tabF ln l j j 0):=by rw[Zk wr pl _ _ _ (0,0) HR.o.T];exact VI s 2 _ j 0 hjs (by omega)
    have t1:wr.cell? ⟨pl,j*2+1,none⟩=some (tabF ln l j j 1):=by rw[Zk wr pl _ _ _ (0,0) HR.o.T];exact VI s 2 _ j 1 hjs (by omega)
    have fz:∀i,wr.frozen? ⟨pl,i,none⟩=false:=λi=>by simp[World.frozen?,HR.o.T]
    have f0:=fz (j*2);have f1:=fz (j*2+1);have hplw:pl<wr.heap.size:=ZU wr _ t0;have hbkw:bk<wr.heap.size:=HR.o.K.lt;clear fz;have hkeep:∀x y A B,((((wr.setCell ⟨pl,j*2,none⟩ x).setCell ⟨pl,j*2+1,none⟩ y).alloc A).alloc B).cell? ⟨bk,4,none⟩=some (.slice (some ⟨pl,0,none⟩) s s):=by intro x y A B;have f1:Fr (λk=>k=pl) wr ((wr.setCell ⟨pl,j*2,none⟩ x).setCell ⟨pl,j*2+1,none⟩ y):=(Fr.setCell _ ⟨pl,j*2,none⟩ _).trans (Fr.setCell _ ⟨pl,j*2+1,none⟩ _) (λ_ _ h=>h);exact((f1.trans (Fr.alloc _ _ A) (λ_ _ h=>h)).trans (Fr.alloc _ _ B) (λ_ _ h=>h)).cell g4 h55
    go_wp2_with fail;go_region_held3 (λw'=>w'.cell? ⟨bk,4,none⟩=some (.slice (some ⟨pl,0,none⟩) s s)) (go_keep) (fail)
    ·have HN:=Zc (HR.o.made hjs h54 h55 h52 wr.heap.size (wr.heap.size+1) (Or.inl ⟨rfl,rfl⟩)).drew;go_wp2_with fail;exact⟨⟨j+1,_,by omega,by go_num,HN⟩,by simp[intOf];omega⟩
    ·have HN:=Zc (HR.o.made hjs h54 h55 h52 (wr.heap.size+1) wr.heap.size (Or.inr ⟨rfl,rfl⟩)).drew;go_wp2_with fail;exact⟨⟨j+1,_,by omega,by go_num,HN⟩,by simp[intOf];omega⟩
   ·have hjs2:¬((j:Int)<(s:Int)):=by omega
    have hje:j=s:=by omega
    have HN:Hid (NewL w wr bk po pl l s m n s ln):=by have:=HR.o;rw[hje] at this;exact this
    clear hje;go_wp2_with fail;go_ret;obtain⟨d1,d2,d3⟩:=HN.o.done HM.o hn.2 hs.2 hl.2 h51 h52 h53 h54 h55 h56;exact⟨⟨bk,po,pl,m,s,l,ln⟩,rfl,rfl,rfl,rfl,d1,d2,d3,HN.o.below⟩
 ·have hpl1:=hp1.lt;have hbs:=hb1.size;have hs2:(w.alloc (Obj.cells (Xv s 2 λ_ _=>Value.slice none 0 0) 152)).drew.heap.size=w.heap.size+1:=Xb _ _;have hT0:(w.alloc (Obj.cells (Xv s 2 λ_ _=>Value.slice none 0 0) 152)).drew.heap[w.heap.size]?=some (Obj.cells (Xv s 2 λ_ _=>Value.slice none 0 0) 152):=by show(w.alloc _).heap[w.heap.size]?=_;rw[YX,Zg rfl]
  have hB0:Below w.heap.size w (w.alloc (Obj.cells (Xv s 2 λ_ _=>Value.slice none 0 0) 152)).drew:=((Zm _ _).alloc (Zh _) _).drew;generalize (w.alloc (Obj.cells (Xv s 2 λ_ _=>Value.slice none 0 0) 152)).drew=V at *;have hTl:w.heap.size<V.heap.size:=by omega
  have hpo':w.heap.size≤po:=by omega
  have hbs':w.heap.size≤w1.heap.size:=by omega
  obtain⟨pl,hpl⟩:=Za (w.heap.size);obtain⟨bk,hbk⟩:=Za (w1.heap.size);have hT1:w1.heap[pl]?=some (Obj.cells (Xv s 2 λ_ _=>Value.slice none 0 0) 152):=by rw[←hpl,hb1.block _ hTl];exact hT0
  have hB1:Below w.heap.size w w1:=hB0.trans (hb1.mono (by omega));rw[hbk];rw[hpl];generalize hW:(World.alloc _ (Obj.cells #[Value.slice (some ⟨po,0,none⟩) m m,Value.int .i64 1,Value.int .i64 0,Value.int .i64 l,Value.slice (some ⟨pl,0,none⟩) s s] 128))=W;have H1:Hid (Below w.heap.size w W):=by rw[←hW];exact hB1.alloc hbs' _
  have H2:Hid (IsK W bk {po:=po,n:=m,free:=1,taken:=0,qj:=l,pl:=pl,qk:=s}):=⟨by rw[←hW,YX,Zg (by omega)];rfl⟩;have H3:Hid (IsP W po m (λ_=>0) (aftN n 1) (λ_=>Xr)):=hp1.keep (by rw[←hW,YX,Zj (by omega)]);have H4:Hid (W.heap[pl]?=some (.cells (Xv s 2 (λ_ _=>.slice none 0 0)) 152)):=by show _=_;rw[←hW,YX,Zj (by omega)];exact hT1
  have H5:Hid (w.heap.size≤po∧w.heap.size≤pl∧w.heap.size≤bk∧po≠pl∧bk≠pl∧bk≠po):=⟨hpo',by omega,by omega,by omega,by omega,by omega⟩;clear hW hpo hpo' hp1 hb1 hbs hbs' hbk hpl1 hT1 hB1 hT0 hB0 hTl hs2;clear hpl;obtain⟨h51,h52,h53,h54,h55,h56⟩:=H5.o;have g4:W.cell? ⟨bk,4,none⟩=some (.slice (some ⟨pl,0,none⟩) s s):=H2.o.cell 4;have H0:Hid (NewL w W bk po pl l s m n 0 (λ_=>0)):=⟨H1.o,H2.o,H3.o,by
   rw[H4.o]
   congr 2,λj hj=>absurd hj (by omega),λj _ hj=>absurd hj (by omega)⟩
  clear H1 H2 H3 H4;go_wp2_with fail;clear g4;go_loopw [21] (λi wr=>∃(j:Nat) (ln:Nat→Nat),j≤s∧i=.int .i64 j∧Hid (NewL w wr bk po pl l s m n j ln)) (λi _=>s-(intOf i).toNat)
  case atStart=>exact⟨0,_,Zy _,rfl,H0⟩
  case round=>
   clear H0;obtain⟨j,ln,hj,rfl,HR⟩:=hrel;have g4:wr.cell? ⟨bk,4,none⟩=some (.slice (some ⟨pl,0,none⟩) s s):=HR.o.K.cell 4;by_cases hjs:j<s
   ·have hjs2:(j:Int)<(s:Int):=by omega
    have t0:wr.cell? ⟨pl,j*2,none⟩=some (tabF ln l j j 0):=by rw[Zk wr pl _ _ _ (0,0) HR.o.T];exact VI s 2 _ j 0 hjs (by omega)
    have t1:wr.cell? ⟨pl,j*2+1,none⟩=some (tabF ln l j j 1):=by rw[Zk wr pl _ _ _ (0,0) HR.o.T];exact VI s 2 _ j 1 hjs (by omega)
    have fz:∀i,wr.frozen? ⟨pl,i,none⟩=false:=λi=>by simp[World.frozen?,HR.o.T]
    have f0:=fz (j*2);have f1:=fz (j*2+1);have hplw:pl<wr.heap.size:=ZU wr _ t0;have hbkw:bk<wr.heap.size:=HR.o.K.lt;clear fz;have hkeep:∀x y A B,((((wr.setCell ⟨pl,j*2,none⟩ x).setCell ⟨pl,j*2+1,none⟩ y).alloc A).alloc B).cell? ⟨bk,4,none⟩=some (.slice (some ⟨pl,0,none⟩) s s):=by intro x y A B;have f1:Fr (λk=>k=pl) wr ((wr.setCell ⟨pl,j*2,none⟩ x).setCell ⟨pl,j*2+1,none⟩ y):=(Fr.setCell _ ⟨pl,j*2,none⟩ _).trans (Fr.setCell _ ⟨pl,j*2+1,none⟩ _) (λ_ _ h=>h);exact((f1.trans (Fr.alloc _ _ A) (λ_ _ h=>h)).trans (Fr.alloc _ _ B) (λ_ _ h=>h)).cell g4 h55
    go_wp2_with fail;go_region_held3 (λw'=>w'.cell? ⟨bk,4,none⟩=some (.slice (some ⟨pl,0,none⟩) s s)) (go_keep) (fail)
    ·have HN:=Zc (HR.o.made hjs h54 h55 h52 wr.heap.size (wr.heap.size+1) (Or.inl ⟨rfl,rfl⟩)).drew;go_wp2_with fail;exact⟨⟨j+1,_,by omega,by go_num,HN⟩,by simp[intOf];omega⟩
    ·have HN:=Zc (HR.o.made hjs h54 h55 h52 (wr.heap.size+1) wr.heap.size (Or.inr ⟨rfl,rfl⟩)).drew;go_wp2_with fail;exact⟨⟨j+1,_,by omega,by go_num,HN⟩,by simp[intOf];omega⟩
   ·have hjs2:¬((j:Int)<(s:Int)):=by omega
    have hje:j=s:=by omega
    have HN:Hid (NewL w wr bk po pl l s m n s ln):=by have:=HR.o;rw[hje] at this;exact this
    clear hje;go_wp2_with fail;go_ret;obtain⟨d1,d2,d3⟩:=HN.o.done HM.o hn.2 hs.2 hl.2 h51 h52 h53 h54 h55 h56;exact⟨⟨bk,po,pl,m,s,l,ln⟩,rfl,rfl,rfl,rfl,d1,d2,d3,HN.o.below⟩
end
section
open Go.RowKit
open Go.Maps (Keyed)
attribute [local go_sem ↓] Go.wp_at_zero Go.wp_at_succ
theorem QU :prog.underlying 62=some (.map 98 3):=by kernel_rfl
theorem Zi5 :prog.underlying 98=some (.int .u32):=by kernel_rfl
theorem QG :prog.underlying 3=some (.int .i64):=by kernel_rfl
theorem infoInt :(prog.info? 3).map (λi=>(i.zero,i.size,i.bytes))=some (some (.int .i64 0),1,8):=by kernel_rfl
theorem Zha (w:World):(zeroValue 3).run prog w=.ok (.int .i64 0) w:=by obtain⟨i,hi,hz,-,-⟩:=info_parts infoInt;simp[zeroValue,typeInfo,hi,hz]
theorem Ux :Keyed prog 98:=Maps.int_keyed Zi5
theorem wf32 (t:Nat)(h:t<4294967296):(Lit.int .u32 (t:Int)).wf=true:=by rw[Lit.wf_int_iff];exact⟨by show(0:Int)≤_;omega,by show _≤(4294967295:Int);omega⟩
theorem wf64 (t:Nat)(h:t<9223372036854775808):(Lit.int .i64 (t:Int)).wf=true:=by rw[Lit.wf_int_iff];exact⟨by show(-9223372036854775808:Int)≤_;omega,by show _≤(9223372036854775807:Int);omega⟩
theorem Zf4 (t:Nat)(h:t<4294967296):keyOf prog 98 (.int .u32 t)=some (.int .u32 t):=Maps.keyOf_int_mk Zi5 (wf32 t h)
theorem Zaj {H:Type}{P:Program}{k:TypeId}{R:Value→Option (DataW H×List MemPlace)}{D:DataW H}(h:w.ownsMap P k R b n D):w.ownsMap P k R b (Maps.size D) D:=by obtain⟨es,clock,hb,F,_,rfl⟩:=h;exact⟨es,clock,hb,F,by simp[Maps.size,length_sorted],rfl⟩
theorem Zi8 {a b:Int}(h:(DataW.lit (Lit.int .i64 a):DataW Unit)=.lit (.int .i64 b)):a=b:=(Lit.int.inj (DataW.lit.inj h)).2
theorem Zfo (t:Int):WideAt.IsKeyLit (.int .u32 t):=by simp[WideAt.IsKeyLit]
def IsM (w:World)(pm n:Nat)(M:Nat→Option Nat):Prop:=
 ∃D:DataW Unit,w.ownsMap prog 98 (plainElem prog 3) pm n D∧Maps.size D=n∧
  ∀t:Nat,t<4294967296→Maps.has D (.int .u32 t)=(M t).isSome∧D.atKey (.int .u32 t) (.lit (.int .i64 0))=.lit (.int .i64 (((M t).getD 0:Nat):Int))
theorem IsM.keep (h:IsM w pm n M)(hk:w'.heap[pm]?=w.heap[pm]?):IsM w' pm n M:=by obtain⟨D,⟨es,clock,hb,F,hs,hD⟩,h2,h3⟩:=h;exact⟨D,⟨es,clock,hk.trans hb,F,hs,hD⟩,h2,h3⟩
theorem IsM.lt (h:IsM w pm n M):pm<w.heap.size:=by obtain⟨D,h1,-⟩:=h;exact h1.lt
theorem IsM.new (w:World):IsM (w.alloc (.map #[] 0)) w.heap.size 0 (λ_=>none):=
 ⟨.map [],World.ownsMap_made w _ _ _,rfl,λ_t _=>⟨rfl,rfl⟩⟩
theorem IsM.look (h:IsM w pm n M)(t:Nat)(ht:t<4294967296):
  (Instr.lookup 62 (.map (some pm)) (.int .u32 t) false).run prog w=.ok (.int .i64 (((M t).getD 0:Nat):Int)) w:=by
 obtain⟨D,h1,-,h3⟩:=h;obtain⟨c,hrun,hat,-⟩:=h1.lookup_int Ux QU QG (Zha w) (Zf4 t ht);rw[hrun,Zi8 ((h3 t ht).2.symm.trans hat)]
theorem IsM.lookOk (h:IsM w pm n M)(t:Nat)(ht:t<4294967296):
  (Instr.lookup 62 (.map (some pm)) (.int .u32 t) true).run prog w=.ok (.tuple #[.int .i64 (((M t).getD 0:Nat):Int),.bool (M t).isSome]) w:=by
 obtain⟨D,h1,-,h3⟩:=h;obtain⟨v,ps,hrun,hv⟩:=h1.look_ok Ux QU (Zha w) (plainElem_int QG (by decide)) (Zf4 t ht);obtain⟨c,rfl,hc,-⟩:=plainElem_int_inv QG hv;rw[hrun,(h3 t ht).1,Zi8 ((h3 t ht).2.symm.trans (congrArg Prod.fst hc))]
theorem IsM.store (h:IsM w pm n M)(t v:Nat)(ht:t<4294967296)(hv:v<4294967296)(hn:n≤4294967296):
  ∃w',(Instr.mapUpdate 62 (.map (some pm)) (.int .u32 t) (.int .i64 v)).run prog w=.ok () w'∧IsM w' pm (if (M t).isSome then n else n+1) (updM M t (some v))∧Fr (λk=>k=pm) w w':=by
 obtain⟨D,h1,h2,h3⟩:=h;obtain⟨w',hrun,hown,hturn⟩:=h1.store Ux QU (show n<maxLen by unfold maxLen;omega) (Zf4 t ht) (plainElem_int QG (wf64 v (by omega)));have hsz:Maps.size (D.put (.int .u32 t) (.lit (.int .i64 v)))=if (M t).isSome then n else n+1:=by rw[Maps.size_put (h1.tidy Ux),(h3 t ht).1,h2]
 refine⟨w',hrun,⟨_,?_,hsz,?_⟩,?_⟩
 ·rw[←hsz];exact Zaj hown
 ·intro u hu;by_cases e:u=t
  ·subst e;rw[Xt,Maps.has_put_same h1.isMap (Zfo _),Maps.atKey_put_same h1.isMap (Zfo _)];exact⟨rfl,rfl⟩
  ·have hne:(Lit.int .u32 (u:Int))≠.int .u32 (t:Int):=by intro e2;have:=(Lit.int.inj e2).2;exact e (by omega)
   rw[XF _ _ _ _ e,Maps.has_put_other hne,Maps.atKey_put_other hne];exact h3 u hu
 ·have:=hturn.grown;exact⟨this.os,this.tape,this.output,this.size,λk hk hn=>this.block k hk (λe=>hn (Zv e))⟩
end
section
open Go.RowKit
structure Dist (b:Nat)(c:BC)(k:SK):Prop where
 bF:¬k.F b
 pb:c.pm≠b
 pF:¬k.F c.pm
 ab:c.va.ownBlock≠some b
 ap:c.va.ownBlock≠some c.pm
 aF:∀g,c.va.ownBlock=some g→¬k.F g
 tb:c.vt.ownBlock≠some b
 tp:c.vt.ownBlock≠some c.pm
 tF:∀g,c.vt.ownBlock=some g→¬k.F g
 atb:∀g,c.va.ownBlock=some g→c.vt.ownBlock≠some g
def GB (b:Nat)(c:BC)(k:SK)(j:Nat):Prop:=j=b∨j=c.pm∨k.F j∨c.va.ownBlock=some j∨c.vt.ownBlock=some j
structure Rel (w:World)(b:Nat)(c:BC)(k:SK)(st:St):Prop where
 B:IsB w b c
 bk:c.bk=k.bk
 A:Own w 0 c.va st.ans
 T:Own w 0 c.vt st.tape
 time:c.time=st.time
 qg:c.qg=st.qg
 qi:c.qi=st.qi
 dist:Dist b c k
 ex:∃M od ps fl,Bks w k st.ql od ps fl∧IsM w c.pm st.used.length M∧Fi k.S k.L k.n od ps fl M st
structure Stp (w:World)(b:Nat)(c:BC)(k:SK)(w':World)(c':BC):Prop where
 fr:Fr (GB b c k) w w'
 sub:∀j,GB b c' k j→GB b c k j∨w.heap.size≤j
 bytes:c'.bytes=c.bytes
 have_:c'.have_=c.have_
 opn:c'.opn=c.opn
theorem Stp.refl (w:World)(b:Nat)(c:BC)(k:SK):Stp w b c k w c:=⟨Fr.refl _ _,λ_ h=>Or.inl h,rfl,rfl,rfl⟩
theorem Stp.trans {w1 w2:World}{c1 c2:BC}(h:Stp w b c k w1 c1)(g:Stp w1 b c1 k w2 c2):Stp w b c k w2 c2:=by
 refine⟨h.fr.trans g.fr (λi hi hg=>(h.sub i hg).elim id (λe=>by omega)),?_,g.bytes.trans h.bytes,g.have_.trans h.have_,g.opn.trans h.opn⟩;intro j hj;rcases g.sub j hj with e|e
 ·exact h.sub j e
 ·exact Or.inr (Zw h.fr.size e)
theorem Stp.quiet (h:Fr (λ_=>False) w w'):Stp w b c k w' c:=⟨h.mono (λ_ _ h=>h.elim),λ_ h=>Or.inl h,rfl,rfl,rfl⟩
theorem Rel.lt (h:Rel w b c k st)(j:Nat)(hj:GB b c k j):j<w.heap.size:=by
 obtain⟨M,od,ps,fl,h1,h2,-⟩:=h.ex;rcases hj with rfl|rfl|hj|hj|hj
 ·exact h.B.lt
 ·exact h2.lt
 ·exact h1.lt j hj
 ·exact(Own.lt h.A j hj).2
 ·exact(Own.lt h.T j hj).2
theorem Rel.keep (h:Rel w b c k st)(hk:∀j,GB b c k j→w'.heap[j]?=w.heap[j]?):Rel w' b c k st:=by
 obtain⟨M,od,ps,fl,h1,h2,h3⟩:=h.ex;exact⟨h.B.keep (hk b (Or.inl rfl)),h.bk,h.A.keep (λg hg=>hk g (Or.inr (Or.inr (Or.inr (Or.inl hg))))),h.T.keep (λg hg=>hk g (Or.inr (Or.inr (Or.inr (Or.inr hg))))),h.time,h.qg,h.qi,h.dist,
  M,od,ps,fl,h1.keep (λj hj=>hk j (Or.inr (Or.inr (Or.inl hj)))),h2.keep (hk c.pm (Or.inr (Or.inl rfl))),h3⟩
theorem Rel.quiet (h:Rel w b c k st)(hf:Fr (λ_=>False) w w'):Rel w' b c k st:=
 h.keep (λj hj=>hf.block j (h.lt j hj) (λe=>e))
theorem Rel.inv (h:Rel w b c k st):Inv st:=by obtain⟨M,od,ps,fl,-,-,h3⟩:=h.ex;exact h3.inv
theorem Rel.ok (h:Rel w b c k st):k.ok:=by obtain⟨M,od,ps,fl,h1,-,-⟩:=h.ex;exact h1.ok
theorem Rel.tellA {l l':List UInt8}(h:Rel w b c k st)(t:TX w w' b c l')(hl:l'=st.ans++l):∃c',Rel w' b c' k (st.say l)∧Stp w b c k w' c'∧c'.pm=c.pm∧c'.bk=c.bk:=by
 obtain⟨v',tB,tO,tn,tat,tf⟩:=t;have hd:=h.dist;have hF:∀j,k.F j→¬(j=b∨c.va.ownBlock=some j):=λj hj e=>e.elim (λe=>hd.bF (e▸hj)) (λe=>hd.aF j e hj);have hnew:∀g,v'.ownBlock=some g→c.va.ownBlock=some g∨w.heap.size≤g:=by
  intro g hg;rcases tat with e|⟨g',e,h'⟩
  ·exact Or.inl (by rw[←e];exact hg)
  ·rw[e] at hg;cases hg;exact Or.inr h'
 obtain⟨M,od,ps,fl,h1,h2,h3⟩:=h.ex;refine⟨{c with va:=v'},⟨tB,h.bk,by rw[hl] at tO;exact tO,?_,h.time,h.qg,h.qi,?_,M,od,ps,fl,h1.fr tf hF,h2.keep (tf.block _ h2.lt ?_),h3.of_st (h3.inv.say l) rfl rfl rfl rfl rfl⟩,⟨?_,?_,rfl,rfl,rfl⟩,rfl,rfl⟩
 ·exact h.T.keep (λg hg=>tf.block g (Own.lt h.T g hg).2 (λe=>e.elim (λe=>hd.tb (e▸hg)) (λe=>hd.atb g e hg)))
 ·refine⟨hd.bF,hd.pb,hd.pF,tn,?_,?_,hd.tb,hd.tp,hd.tF,?_⟩
  ·intro e;rcases hnew c.pm e with e'|e'
   ·exact hd.ap e'
   ·have:=h2.lt;omega
  ·intro g hg hk;rcases hnew g hg with e'|e'
   ·exact hd.aF g e' hk
   ·have:=h1.lt g hk;omega
  ·intro g hg e;rcases hnew g hg with e'|e'
   ·exact hd.atb g e' e
   ·have:=(Own.lt h.T g e).2;omega
 ·exact λe=>e.elim (λe=>hd.pb e) (λe=>hd.ap e)
 ·exact tf.mono (λj _ e=>e.elim (λe=>Or.inl e) (λe=>Or.inr (Or.inr (Or.inr (Or.inl e)))))
 ·intro j hj;rcases hj with e|e|e|e|e
  ·exact Or.inl (Or.inl e)
  ·exact Or.inl (Or.inr (Or.inl e))
  ·exact Or.inl (Or.inr (Or.inr (Or.inl e)))
  ·rcases hnew j e with e'|e'
   ·exact Or.inl (Or.inr (Or.inr (Or.inr (Or.inl e'))))
   ·exact Or.inr e'
  ·exact Or.inl (Or.inr (Or.inr (Or.inr (Or.inr e))))
theorem Rel.tellT {l l':List UInt8}(h:Rel w b c k st)(t:Zau w w' b c l')(hl:l'=st.tape++l):∃c',Rel w' b c' k (st.put l)∧Stp w b c k w' c'∧c'.pm=c.pm∧c'.bk=c.bk:=by
 obtain⟨v',tB,tO,tn,tat,tf⟩:=t;have hd:=h.dist;have hF:∀j,k.F j→¬(j=b∨c.vt.ownBlock=some j):=λj hj e=>e.elim (λe=>hd.bF (e▸hj)) (λe=>hd.tF j e hj);have hnew:∀g,v'.ownBlock=some g→c.vt.ownBlock=some g∨w.heap.size≤g:=by
  intro g hg;rcases tat with e|⟨g',e,h'⟩
  ·exact Or.inl (by rw[←e];exact hg)
  ·rw[e] at hg;cases hg;exact Or.inr h'
 obtain⟨M,od,ps,fl,h1,h2,h3⟩:=h.ex;refine⟨{c with vt:=v'},⟨tB,h.bk,?_,by rw[hl] at tO;exact tO,h.time,h.qg,h.qi,?_,M,od,ps,fl,h1.fr tf hF,h2.keep (tf.block _ h2.lt ?_),h3.of_st (h3.inv.put l) rfl rfl rfl rfl rfl⟩,⟨?_,?_,rfl,rfl,rfl⟩,rfl,rfl⟩
 ·exact h.A.keep (λg hg=>tf.block g (Own.lt h.A g hg).2 (λe=>e.elim (λe=>hd.ab (e▸hg)) (λe=>hd.atb g hg e)))
 ·refine⟨hd.bF,hd.pb,hd.pF,hd.ab,hd.ap,hd.aF,tn,?_,?_,?_⟩
  ·intro e;rcases hnew c.pm e with e'|e'
   ·exact hd.tp e'
   ·have:=h2.lt;omega
  ·intro g hg hk;rcases hnew g hg with e'|e'
   ·exact hd.tF g e' hk
   ·have:=h1.lt g hk;omega
  ·intro g hg e;rcases hnew g e with e'|e'
   ·exact hd.atb g hg e'
   ·have:=(Own.lt h.A g hg).2;omega
 ·exact λe=>e.elim (λe=>hd.pb e) (λe=>hd.tp e)
 ·exact tf.mono (λj _ e=>e.elim (λe=>Or.inl e) (λe=>Or.inr (Or.inr (Or.inr (Or.inr e)))))
 ·intro j hj;rcases hj with e|e|e|e|e
  ·exact Or.inl (Or.inl e)
  ·exact Or.inl (Or.inr (Or.inl e))
  ·exact Or.inl (Or.inr (Or.inr (Or.inl e)))
  ·exact Or.inl (Or.inr (Or.inr (Or.inr (Or.inl e))))
  ·rcases hnew j e with e'|e'
   ·exact Or.inl (Or.inr (Or.inr (Or.inr (Or.inr e'))))
   ·exact Or.inr e'
theorem Rel.turn {st':St}{od:Nat→Ord}{ps:Nat→UInt8→Nat→List Nat}{fl:List Nat}(h:Rel w b c k st)(hf:Fr (λj=>k.F j∨j=c.pm) w w')
  (h1:Bks w' k st'.ql od ps fl) (h2:IsM w' c.pm st'.used.length M) (h3:Fi k.S k.L k.n od ps fl M st') (ha:st'.ans=st.ans) (ht:st'.tape=st.tape) (hti:st'.time=st.time) (hr:st'.qg=st.qg) (hm:st'.qi=st.qi):Rel w' b c k st'∧Stp w b c k w' c:=by
 have hd:=h.dist;refine⟨⟨h.B.keep (hf.block b h.B.lt (λe=>e.elim hd.bF (λe=>hd.pb e.symm))),h.bk,?_,?_,h.time.trans hti.symm,h.qg.trans hr.symm,h.qi.trans hm.symm,hd,M,od,ps,fl,h1,h2,h3⟩,⟨?_,λ_ h=>Or.inl h,rfl,rfl,rfl⟩⟩
 ·rw[ha];exact h.A.keep (λg hg=>hf.block g (Own.lt h.A g hg).2 (λe=>e.elim (hd.aF g hg) (λe=>hd.ap (e▸hg))))
 ·rw[ht];exact h.T.keep (λg hg=>hf.block g (Own.lt h.T g hg).2 (λe=>e.elim (hd.tF g hg) (λe=>hd.tp (e▸hg))))
 ·exact hf.mono (λj _ e=>e.elim (λe=>Or.inr (Or.inr (Or.inl e))) (λe=>Or.inr (Or.inl e)))
end
section
open Go.RowKit
attribute [local go_sem ↓] Go.wp_at_zero Go.wp_at_succ
theorem UH (b:Nat)(c:BC)(l:List UInt8)(o:PO)(t:Nat)(w:World)(hB:IsB w b c)(htm:c.time<18446744073709551616)(_hmt:c.qi<4294967296)(ho:Own w 0 c.va l)(hne:c.va.ownBlock≠some b)(hl:l.length+64≤140737488355328)(hok:o.ok)(ht:t<4294967296):
  Calls prog 152 #[.pointer (some ⟨b,0,none⟩),.agg o.cells,.int .u32 t] w λe w'=>e=.returned (.tuple #[])∧TX w w' b c (l++85::enc c.time 6++enc o.qf 4++enc o.qc 2++enc o.qa 2++enc o.ref 4++enc t 4):=by
 have g20:w.cell? ⟨b,20,none⟩=some c.va:=by rw[hB.cell];exact(c.get hB.len).2.2.2.2.2.2.2.1
 have HB:=Zc hB;have HO:=Zc ho;have hbl:=hB.lt;clear hB ho;obtain⟨bf,af,ref,qf,qe,qd,qc,qa⟩:=o;obtain⟨k1,k2,k3,k4,k5⟩:=hok;simp only[PO.cells] at *;go_enter func152,ntmps152;go_wp2_with fail;generalize hOb:Obj.cells _ 108=Ob;have hpa:=Puts.alloc HO.o Ob;have hBa:=HB.o.fr (Fr.alloc (λ_=>False) w Ob) (λh=>h);have hbx:(w.alloc Ob).heap[w.heap.size]?=some Ob:=by rw[YX,Zg rfl]
 have nbx:c.va.ownBlock≠some w.heap.size:=λe=>by have:=(HO.o.lt _ e).2;omega
 refine(XU b c c.va l 85 _ hBa htm hpa.own hne (by omega)).mono ?_;rintro e w0 ⟨v0,rfl,hp0⟩;have hq0:=hp0;have gb0:w0.cell? ⟨w.heap.size,3,none⟩=some (.int .u32 qf):=hq0.fr.cell (by subst hOb;rw[Zk _ w.heap.size 3 _ 108 (0,0) hbx];rfl) nbx;go_wp2_with fail;refine(VY v0 _ (qf) w0 hp0.own (by omega) (by simp[YZ];omega)).mono ?_;rintro e w1 ⟨v1,rfl,hp1⟩;have hq1:=hq0.trans hp1;have gb1:w1.cell? ⟨w.heap.size,6,none⟩=some (.int .u16 qc):=hq1.fr.cell (by subst hOb;rw[Zk _ w.heap.size 6 _ 108 (0,0) hbx];rfl) nbx;go_wp2_with fail;refine(UR v1 _ (qc) w1 hp1.own (by omega) (by simp[YZ];omega)).mono ?_;rintro e w2 ⟨v2,rfl,hp2⟩;have hq2:=hq1.trans hp2;have gb2:w2.cell? ⟨w.heap.size,7,none⟩=some (.int .u16 qa):=hq2.fr.cell (by subst hOb;rw[Zk _ w.heap.size 7 _ 108 (0,0) hbx];rfl) nbx;go_wp2_with fail;refine(UR v2 _ (qa) w2 hp2.own (by omega) (by simp[YZ];omega)).mono ?_;rintro e w3 ⟨v3,rfl,hp3⟩;have hq3:=hq2.trans hp3;have gb3:w3.cell? ⟨w.heap.size,2,none⟩=some (.int .u32 ref):=hq3.fr.cell (by subst hOb;rw[Zk _ w.heap.size 2 _ 108 (0,0) hbx];rfl) nbx;go_wp2_with fail;refine(VY v3 _ (ref) w3 hp3.own (by omega) (by simp[YZ];omega)).mono ?_;rintro e w4 ⟨v4,rfl,hp4⟩;have hq4:=hq3.trans hp4;go_wp2_with fail;refine(VY v4 _ (t) w4 hp4.own (by omega) (by simp[YZ];omega)).mono ?_;rintro e w5 ⟨v5,rfl,hp5⟩;have hq5:=hq4.trans hp5;obtain⟨rr,cc,rfl,-,-⟩:=hp5.own.len;have HQ:=Zc hq5;have hBn:=hBa.fr hq5.fr hne;have gs:w5.cell? ⟨b,20,none⟩=some c.va:=by rw[hBn.cell];exact(c.get hBn.len).2.2.2.2.2.2.2.1
 have gf:=hBn.frozen 20;clear hBn;go_wp2_with fail;go_end0
 refine⟨rfl,?_⟩;have hfin:=TX.mk HB.o hne ((hpa.trans HQ.o).cast (l':=l++85::enc c.time 6++enc qf 4++enc qc 2++enc qa 2++enc ref 4++enc t 4) (by simp));simpa using hfin
theorem Zap (b:Nat)(c:BC)(l:List UInt8)(t:Nat)(o:PO)(w:World)(hB:IsB w b c)(htm:c.time<18446744073709551616)(_hmt:c.qi<4294967296)(ho:Own w 0 c.vt l)(hne:c.vt.ownBlock≠some b)(hl:l.length+64≤140737488355328)(hok:o.ok)(ht:t<4294967296):
  Calls prog 156 #[.pointer (some ⟨b,0,none⟩),.int .u32 t,.agg o.cells] w λe w'=>e=.returned (.tuple #[])∧Zau w w' b c (l++117::enc c.time 6++enc t 4++enc o.ref 4++enc o.qa 2++enc o.qc 2):=by
 have g20:w.cell? ⟨b,21,none⟩=some c.vt:=by rw[hB.cell];exact(c.get hB.len).2.2.2.2.2.2.2.2
 have HB:=Zc hB;have HO:=Zc ho;have hbl:=hB.lt;clear hB ho;obtain⟨bf,af,ref,qf,qe,qd,qc,qa⟩:=o;obtain⟨k1,k2,k3,k4,k5⟩:=hok;simp only[PO.cells] at *;go_enter func156,ntmps156;go_wp2_with fail;generalize hOb:Obj.cells _ 108=Ob;have hpa:=Puts.alloc HO.o Ob;have hBa:=HB.o.fr (Fr.alloc (λ_=>False) w Ob) (λh=>h);have hbx:(w.alloc Ob).heap[w.heap.size]?=some Ob:=by rw[YX,Zg rfl]
 have nbx:c.vt.ownBlock≠some w.heap.size:=λe=>by have:=(HO.o.lt _ e).2;omega
 refine(XU b c c.vt l 117 _ hBa htm hpa.own hne (by omega)).mono ?_;rintro e w0 ⟨v0,rfl,hp0⟩;have hq0:=hp0;go_wp2_with fail;refine(VY v0 _ (t) w0 hp0.own (by omega) (by simp[YZ];omega)).mono ?_;rintro e w1 ⟨v1,rfl,hp1⟩;have hq1:=hq0.trans hp1;have gb1:w1.cell? ⟨w.heap.size,2,none⟩=some (.int .u32 ref):=hq1.fr.cell (by subst hOb;rw[Zk _ w.heap.size 2 _ 108 (0,0) hbx];rfl) nbx;go_wp2_with fail;refine(VY v1 _ (ref) w1 hp1.own (by omega) (by simp[YZ];omega)).mono ?_;rintro e w2 ⟨v2,rfl,hp2⟩;have hq2:=hq1.trans hp2;have gb2:w2.cell? ⟨w.heap.size,7,none⟩=some (.int .u16 qa):=hq2.fr.cell (by subst hOb;rw[Zk _ w.heap.size 7 _ 108 (0,0) hbx];rfl) nbx;go_wp2_with fail;refine(UR v2 _ (qa) w2 hp2.own (by omega) (by simp[YZ];omega)).mono ?_;rintro e w3 ⟨v3,rfl,hp3⟩;have hq3:=hq2.trans hp3;have gb3:w3.cell? ⟨w.heap.size,6,none⟩=some (.int .u16 qc):=hq3.fr.cell (by subst hOb;rw[Zk _ w.heap.size 6 _ 108 (0,0) hbx];rfl) nbx;go_wp2_with fail;refine(UR v3 _ (qc) w3 hp3.own (by omega) (by simp[YZ];omega)).mono ?_;rintro e w4 ⟨v4,rfl,hp4⟩;have hq4:=hq3.trans hp4;obtain⟨rr,cc,rfl,-,-⟩:=hp4.own.len;have HQ:=Zc hq4;have hBn:=hBa.fr hq4.fr hne;have gs:w4.cell? ⟨b,21,none⟩=some c.vt:=by rw[hBn.cell];exact(c.get hBn.len).2.2.2.2.2.2.2.2
 have gf:=hBn.frozen 21;clear hBn;go_wp2_with fail;go_end0
 refine⟨rfl,?_⟩;have hfin:=Zau.mk HB.o hne ((hpa.trans HQ.o).cast (l':=l++117::enc c.time 6++enc t 4++enc ref 4++enc qa 2++enc qc 2) (by simp));simpa using hfin
attribute [local go_sem] Qb Za4
theorem Za7 (g o:Nat)(l:List UInt8)(w:World)(hl:l.length=12)(h:Lies w g o l)(hg:g<w.heap.size):
  Calls prog 90 #[.slice (some ⟨g,o,none⟩) 12 12] w λe w'=>
   e=.returned (.agg #[.int .u32 (num (l.take 4) 0:Nat),.int .u32 (num ((l.drop 4).take 4) 0:Nat),.int .u16 (num ((l.drop 8).take 2) 0:Nat),.int .u16 (num ((l.drop 10).take 2) 0:Nat)])∧Below w.heap.size w w':=by
 go_enter func90,ntmps90;go_wp2_with fail;refine(TU g o 12 12 l _ hl (by decide) (by decide) (by decide) (Vd h hg _ _ 0)).mono ?_;rintro e w1 ⟨o1,rfl,ho1,q1,rfl⟩;obtain rfl:=ho1 (by decide);clear ho1;go_wp2_with fail;refine(TU g (o+4) 8 8 (l.drop 4) _ (by rw[Zt,hl]) (by decide) (by decide) (by decide) (Vd (h.drop 4) hg _ _ _)).mono ?_;rintro e w2 ⟨o2,rfl,ho2,q2,rfl⟩;obtain rfl:=ho2 (by decide);clear ho2;go_wp2_with fail;refine(Ur g (o+8) 4 4 (l.drop 8) _ (by rw[Zt,hl]) (by decide) (by decide) (by decide) (Vd (h.drop 8) hg _ _ _)).mono ?_;rintro e w3 ⟨o3,rfl,ho3,q3,rfl⟩;obtain rfl:=ho3 (by decide);clear ho3;go_wp2_with fail;refine(Ur g (o+10) 2 2 (l.drop 10) _ (by rw[Zt,hl]) (by decide) (by decide) (by decide) (Vd (h.drop 10) hg _ _ _)).mono ?_;rintro e w4 ⟨o4,rfl,ho4,q4,rfl⟩;clear ho4;go_wp2_with fail;exact ZC (v:=.agg #[.int .u32 (num (l.take 4) 0:Nat),.int .u32 (num ((l.drop 4).take 4) 0:Nat),.int .u16 (num ((l.drop 8).take 2) 0:Nat),.int .u16 (num ((l.drop 10).take 2) 0:Nat)]) (by simp[results,results90,go_sem]) rfl ⟨rfl,YQ (Below.alloc ((Zm _ _).alloc (Zh _) _) (by rw[Xb];omega) _) _⟩
end
end Go.Proofs.YtphkchjejbffeaaGreat
