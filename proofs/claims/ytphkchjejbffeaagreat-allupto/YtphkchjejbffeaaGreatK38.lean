/- S17, S18, B6, R2, R4, R5 -/
import Derived.Test.YtphkchjejbffeaaGreatK17
import Derived.Test.YtphkchjejbffeaaGreatK37
set_option maxHeartbeats 16000000
set_option maxRecDepth 100000
namespace Go.Proofs.YtphkchjejbffeaaGreat
open Tryz
open Go.RowKit
variable {K S:List Ord}{base cap g n:Nat}{w:World}
section
open Go.Shelf Go.RowKit Go.Lib Go.Sort
theorem srtG :SrtG prog where
 fm:=func103
 fr:=func139
 fs:=func159
 em:=λargs w=>by kernel_rfl
 er:=λargs w=>by kernel_rfl
 es:=λargs w=>by kernel_rfl
 fi:=func102
 ft:=func79
 fo:=func55
 ei:=λargs w=>by kernel_rfl
 et:=λargs w=>by kernel_rfl
theorem sortBook (w0 w:World)(g cap len:Nat)(d0:Array Ord)(L:List Ord)(R:RowK Ord.cells 6 w0 g 0 d0)(hs:d0.size=len)(hL:L.length=len)(S:SWL Ord.cells 6 w0 g L w)(hsz:len<1152921504606846976):
  Calls prog 55 #[.slice (some ⟨g,0,none⟩) len cap,.func (.func 56) #[] #[]] w λe w'=>e=.returned (.tuple #[])∧∃C,Srt (ltc byB) C∧Cls (ltc byB) L C∧C.length=len∧SWL Ord.cells 6 w0 g C w':=
 Zb0 srtT srtG Ord.cells byB Zeq 56 (λargs w=>by kernel_rfl) w0 w g cap len d0 L (Zg1 g len w0) R hs hL S hsz
end
section
open Go.Shelf Go.RowKit Go.Lib Go.Sort
attribute [local go_sem ↓] Go.wp_at_zero Go.wp_at_succ
theorem Zbw (f:Value)(w:World):Calls prog 102 #[.slice none 0 0,.int .i64 0,.int .i64 0,f] w λe w'=>e=.returned (.tuple #[])∧w'=w:=by
 go_enter func102,ntmps102;go_wp2_with fail;go_loopw [8] (λvi wr=>vi=.int .i64 1∧wr=w) (λ_ _=>0)
 case atStart=>exact⟨by first|rfl|go_num,rfl⟩
 case round=>
  obtain⟨rfl,rfl⟩:=hrel;go_wp2
  go_end0
  exact⟨rfl,rfl⟩
theorem Zgt (f:Value)(w:World):Calls prog 79 #[.slice none 0 0,.int .i64 0,f] w λe w'=>e=.returned (.tuple #[])∧w'=w:=by
 go_enter func79,ntmps79;go_wp2_with fail;go_loopw [7,8] (λva vb wr=>va=.int .i64 0∧vb=.int .i64 20∧wr=w) (λ_ _ _=>0)
 case atStart=>exact⟨rfl,rfl,rfl⟩
 case round=>
  obtain⟨rfl,rfl,rfl⟩:=hrel;go_wp2_with fail;refine(Zbw _ _).mono ?_;rintro e' w2 ⟨rfl,rfl⟩;go_wp2_with fail;go_loopw [6,7,8] (λvk va vb wr=>vk=.int .i64 20∧va=.int .i64 0∧vb=.int .i64 20∧wr=w2) (λ_ _ _ _=>0)
  case atStart=>exact⟨rfl,rfl,rfl,rfl⟩
  case round=>
   obtain⟨rfl,rfl,rfl,rfl⟩:=hrel;go_wp2
   go_end0
   exact⟨rfl,rfl⟩
theorem Zka (f:Value)(w:World):Calls prog 55 #[.slice none 0 0,f] w λe w'=>e=.returned (.tuple #[])∧w'=w:=by
 go_enter func55,ntmps55;go_wp2_with fail;refine(Zgt _ _).mono ?_;rintro e' w2 ⟨rfl,rfl⟩;go_wp2
 go_end0
 exact⟨rfl,rfl⟩
theorem flat_at (C:List Ord)(k:Nat)(h:k<C.length*6):(flatK Ord.cells 6 C.toArray)[k]! = (C[k / 6]'(by omega)).cells[k%6]'(by show k%6<6;omega):=by
 have hi:k / 6<C.length:=by omega
 have hr:k%6<(C[k / 6].cells).length:=by show k%6<6;omega
 rw[get_flatK _ _ _ _ h];have e1:C.toArray[k / 6]! = C[k / 6]:=by rw[getElem!_pos _ _ (by simpa using hi)];simp
 rw[e1];exact getElem!_pos (C[k / 6].cells) (k%6) hr
theorem Zdb (h:w.ownsRow base 40 6 (.slice (some ⟨g,0,none⟩) n cap) n (K.flatMap Ord.cells))(hK:K.length=n):HoldsK Ord.cells 6 w g 0 K.toArray:=by
 intro j hj;rw[size_flatK] at hj;have hj':j<K.length*6:=hj;have hi:j / 6<K.length:=by omega
 have hlen:∀x:Ord,x.cells.length=6:=λ_=>rfl;have hx:K[j / 6]?=some K[j / 6]:=Zp hi;have hr:j%6<(K[j / 6].cells).length:=by rw[hlen];omega
 have hf:=Ud Ord.cells 6 hlen K (j / 6) (j%6) _ (K[j / 6].cells[j%6]) hx (by omega) (Zp hr);rw[show j / 6*6+j%6=j by omega] at hf;have hc:=h.cells (g:=g) rfl j _ hf;rw[Yg] at hc;have e:(flatK Ord.cells 6 K.toArray)[j]! = K[j / 6].cells[j%6]:=by
  rw[get_flatK _ _ _ _ hj];have e1:K.toArray[j / 6]! = K[j / 6]:=by rw[getElem!_pos _ _ (by simpa using hi)];simp
  rw[e1];exact getElem!_pos (K[j / 6].cells) (j%6) hr
 refine⟨by rw[e];exact hc,?_⟩;rcases h.2 with⟨h1,-⟩|⟨g',cap',cur,h1,h2,h3,-⟩
 ·simp at h1
 ·simp only[ZX,Ys,YB] at h1;obtain⟨⟨rfl,-,-⟩,-⟩:=h1;simp[World.frozen?,h3]
theorem Zie {w':World}{C:List Ord}(h:w.ownsRow base 40 6 (.slice (some ⟨g,0,none⟩) n cap) n (K.flatMap Ord.cells))(hC:C.length=n)(hb:base≤w.heap.size)(S:SWL Ord.cells 6 w g C w'):
  w'.ownsRow base 40 6 (.slice (some ⟨g,0,none⟩) n cap) n (C.flatMap Ord.cells)∧Below base w w':=by
 obtain⟨m,os,rfl⟩:=S;have hlen:∀x:Ord,x.cells.length=6:=λ_=>rfl;rcases h.2 with⟨h1,-⟩|⟨g',cap',cur,h1,h2,h3,h4,h5,h6,h7⟩
 ·simp at h1
 ·simp only[ZX,Ys,YB] at h1;obtain⟨⟨rfl,-,-⟩,-,rfl⟩:=h1;have hgl:g<w.heap.size:=(Ze.1 h3).1;have hheap:∀k,k<w.heap.size→(sortWorldK Ord.cells 6 w g 0 m C.toArray os).heap[k]?=(w.heap.modify g (onCells (putCells id 0 (flatK Ord.cells 6 C.toArray))))[k]?:=by intro k hk;show(grow (putRow id (Sort.ahead w m) g 0 (flatK Ord.cells 6 C.toArray)) os).heap[k]?=_;rw[heap_grow_old _ _ (by rw[Sort.size_putRow];exact hk)];rfl
  have hgg:(sortWorldK Ord.cells 6 w g 0 m C.toArray os).heap[g]?=some (.cells (putCells id 0 (flatK Ord.cells 6 C.toArray) cur) 40 (0,0)):=by rw[hheap g hgl,Array.getElem?_modify,Zg rfl,h3];rfl
  refine⟨⟨?_,.inr ⟨g,cap,putCells id 0 (flatK Ord.cells 6 C.toArray) cur,rfl,h2,hgg,h4,h5,?_,?_⟩⟩,⟨rfl,rfl,rfl,?_,?_⟩⟩
  ·rw[XZ,hC]
  ·unfold putCells;rw[Array.size_mapIdx];exact h6
  ·refine List.ext_getElem? λk => ?_;rw[List.getElem?_take];by_cases hk:k<n*6
   ·have hkc:k<cur.size:=by rw[h6];have:=Nat.mul_le_mul_right 6 h4;omega
    have hkC:k<C.length*6:=by rw[hC];exact hk
    rw[Zg hk,Array.getElem?_toList];unfold putCells;rw[Array.getElem?_mapIdx,ZY hkc,Option.map_some,Zg ⟨Zy _,by rw[ZN,size_flatK];exact hkC⟩,Nat.sub_zero,flat_at C k hkC];have hi:k / 6<C.length:=by omega
    have hr:k%6<(C[k / 6].cells).length:=by rw[hlen];omega
    have hf:=Ud Ord.cells 6 hlen C (k / 6) (k%6) _ (C[k / 6].cells[k%6]) (Zp hi) (by omega) (Zp hr);rw[show k / 6*6+k%6=k by omega] at hf;rw[hf];rfl
   ·rw[Zj hk,List.getElem?_eq_none (by rw[XZ,hC];omega)]
  ·exact SWK.le ⟨m,os,rfl⟩
  ·intro k hk;rw[hheap k (by omega),Array.getElem?_modify,Zj (by omega)]
theorem sort_row (h:w.ownsRow base 40 6 (.slice (some ⟨g,0,none⟩) n cap) n (K.flatMap Ord.cells))(hK:K.length=n)(hb:base≤w.heap.size)(hsz:n<1152921504606846976):
  Calls prog 55 #[.slice (some ⟨g,0,none⟩) n cap,.func (.func 56) #[] #[]] w λe w'=>e=.returned (.tuple #[])∧∃C,Srt (ltc byB) C∧Cls (ltc byB) K C∧C.length=n∧w'.ownsRow base 40 6 (.slice (some ⟨g,0,none⟩) n cap) n (C.flatMap Ord.cells)∧Below base w w':=by
 have hH:=Zdb h hK;have hgl:g<w.heap.size:=(Zs h g rfl).2;have R:RowK Ord.cells 6 w g 0 K.toArray:=⟨λ_=>rfl,λx=>Vc x,hH,hgl⟩;refine(sortBook w w g cap n K.toArray K R (by simpa using hK) hK (SWK.start hH) hsz).mono ?_;rintro e w' ⟨rfl,C,h1,h2,h3,h4⟩;obtain⟨r1,r2⟩:=Zie h h3 hb h4;exact⟨rfl,C,h1,h2,h3,r1,r2⟩
theorem list_any {r:Nat}{L:List Ord}(h:RbAt w base r L)(hL:L.length≤2900000000000):
  Calls prog 20 #[.pointer (some ⟨r,0,none⟩)] w λe w'=>∃v C,e=.returned v∧Srt (ltc byB) C∧Cls (ltc byB) (L.filter alive) C∧w'.ownsRow w.heap.size 40 6 v C.length (C.flatMap Ord.cells)∧Below w.heap.size w w':=by
 obtain⟨v,pm,n,M,h1,-,-,h4⟩:=h;obtain⟨g0,-,-,-⟩:=h1.cells;obtain⟨ra,cap,rfl,hc1,hc2,hcs⟩:=h1.row.form;obtain⟨nl,hnl⟩:=Za (L.length);rw[hnl] at g0 hL hc1;have HC:=Zc hcs;have HSM:=Zc h4;have HNL:=Zc hnl;clear hcs h4 h1 hnl;obtain⟨i0,hi,hz0,hz1,hz2⟩:=info_parts infoApi;have HI:=Zc (Zd hi (Zd hz0 (Zd hz1 hz2)));clear hi hz0 hz1 hz2;go_enter func20,ntmps20;go_wp2_with fail;go_loopw [3,11] (λv i wr=>∃j:Nat,j≤nl∧i=.int .i64 j∧Hid (wr.ownsRow w.heap.size 40 6 v ((L.take j).filter alive).length (((L.take j).filter alive).flatMap Ord.cells))∧Hid (Below w.heap.size w wr)) (λ_ i _=>nl-(intOf i).toNat)
 case atStart=>exact⟨0,Zy _,rfl,ZO _ _ _ _,Zm _ _⟩
 case round=>
  obtain⟨j,hj,rfl,hown,hB⟩:=hrel;by_cases hjl:j<nl
  ·have i2:(j:Int)<(nl:Int):=by omega
   have i3:(0:Int)≤(j:Int):=by omega
   obtain⟨x,hx⟩:∃x,L[j]?=some x:=⟨_,Zp (by rw[HNL.o];exact hjl)⟩;obtain⟨g,rfl,-,hgl,-,hrg⟩:=HC.o j x hx;have HTK:Hid ((L.take (j+1)).filter alive=(L.take j).filter alive++(if x.qa=0 then [] else [x])):=by
    show _=_;rw[List.take_add_one,hx,ZS]
    congr 1
    by_cases e:x.qa=0<;>simp[alive,e]
   have HSX:Hid x.small:=HSM.o x (ZW hx);have cx:∀t u,(ordL 0 0 x)[t]?=some u→wr.cell? ⟨g,j*8+t,none⟩=some u:=λt u hu=>(hB.out.cell (p:=⟨g,j*8+t,none⟩) hgl).trans (hrg t u hu);have d0:wr.cell? ⟨g,j*8,none⟩=some (.int .i64 0):=cx 0 _ rfl;have d1:wr.cell? ⟨g,j*8+1,none⟩=some (.int .i64 0):=cx 1 _ rfl;have d2:wr.cell? ⟨g,j*8+2,none⟩=some (.int .u32 x.ref):=cx 2 _ rfl;have d3:wr.cell? ⟨g,j*8+3,none⟩=some (.int .u32 x.qf):=cx 3 _ rfl;have d4:wr.cell? ⟨g,j*8+4,none⟩=some (.int .u8 x.qe.toNat):=cx 4 _ rfl;have d5:wr.cell? ⟨g,j*8+5,none⟩=some (.int .u8 x.qd):=cx 5 _ rfl;have d6:wr.cell? ⟨g,j*8+6,none⟩=some (.int .u16 x.qc):=cx 6 _ rfl;have d7:wr.cell? ⟨g,j*8+7,none⟩=some (.int .u16 x.qa):=cx 7 _ rfl;clear cx hrg;have hfl:((L.take j).filter alive).length≤j:=by
    have e1:=YW alive (L.take j);have e2:(L.take j).length≤j:=by rw[ZD];omega
    omega
   generalize (L.take j).filter alive=F at *;by_cases hs:x.qa=0
   ·have b0:¬(0:Int)<(x.qa:Int):=by omega
    rw[Zg hs,ZG] at HTK;clear hs hx;go_wp2_with fail;refine⟨⟨j+1,by omega,by go_num,?_,?_⟩,by simp[intOf];omega⟩
    ·show World.ownsRow _ _ _ _ _ _ _;rw[HTK.o];exact YY hown.out (λg hg=>by rw[YX,Zj (by have:=(hown.out.lt g hg).2;omega)])
    ·exact hB.out.alloc hB.out.size _
   ·have b0:(0:Int)<(x.qa:Int):=by omega
    rw[Zj hs] at HTK;clear hs hx;have HPA:Hid (∀W,Calls prog 49 #[.agg #[.int .i64 0,.int .i64 0,.int .u32 x.ref,.int .u32 x.qf,.int .u8 x.qe.toNat,.int .u8 x.qd,.int .u16 x.qc,.int .u16 x.qa]] W λe w'=>e=.returned (.agg #[.int .i64 x.ref,.int .i64 x.qf,.int .u8 x.qe.toNat,.int .i64 x.qd,.int .i64 x.qc,.int .i64 x.qa])∧Below W.heap.size W w'):=λW=>Zdj 0 0 x W HSX.o;go_wp2_with fail;refine(HPA.o _).mono ?_;rintro e w2 ⟨rfl,hb2⟩;have hB2:Hid (Below w.heap.size w w2):=(hB.out.alloc hB.out.size _).trans (hb2.mono (by rw[Xb];have:=hB.out.size;omega));have hown2:w2.ownsRow w.heap.size 40 6 u3 F.length (F.flatMap Ord.cells):=YY hown.out (λg hg=>by have:=(hown.out.lt g hg).2;rw[hb2.block g (by rw[Xb];omega),YX,Zj (by omega)])
    have HOA:Hid (∀Ob:Obj,(w2.alloc Ob).ownsRow w.heap.size 40 6 u3 F.length (F.flatMap Ord.cells)):=λOb=>YY hown2 (λg hg=>by rw[YX,Zj (by have:=(hown2.lt g hg).2;omega)]);have HOX:=Zc hown2;clear hb2 hown2 hown hB d0 d1 d2 d3 d4 d5 d6 d7 HPA hgl;go_wp2_with (at_builtin;go_must (refine Xc rfl _ _ 29 rfl w.heap.size 40 i0 _ 6 48 XR HI.o.1 HI.o.2.1 HI.o.2.2.1 HI.o.2.2.2 rfl (by decide) u3 F.length (F.flatMap Ord.cells) rfl (HOA.o _) (.slice (some ⟨w2.heap.size,0,none⟩) 1 1) 1 x.cells rfl (VJ w2 x) (Vc x) (by unfold maxLen;omega) (by omega) (by rw[Xb];have:=hB2.out.size;omega) ?_);intro rb capb w3 hown3 hg3 hv3;have hB3:Hid (Below w.heap.size w w3):=(hB2.out.alloc hB2.out.size _).grown hg3 (by rw[Xb];have:=hB2.out.size;omega) (λg hg=>(HOX.o.lt g hg).1);replace hown3:=Zc hown3;clear hg3 hv3)
    refine⟨⟨j+1,by omega,by go_num,?_,hB3⟩,by simp[intOf];omega⟩;show World.ownsRow _ _ _ _ _ _ _;rw[HTK.o,Zf,Yd];simpa using hown3.out
  ·have i2:¬((j:Int)<(nl:Int)):=by omega
   have:j=nl:=by omega
   subst this;rw[Yv (by rw[HNL.o];exact Zh _)] at hown;have hfl:(L.filter alive).length≤2900000000000:=by have e1:=YW alive L;have e2:=HNL.o;omega
   obtain⟨F,hFe⟩:=Za (L.filter alive);rw[hFe] at hown hfl;have HFE:=Zc hFe;clear hFe;obtain⟨rb,cb,hu3,-,-⟩:=Xf hown.out;rcases hown.out.2 with⟨hv,h0⟩|⟨g,cap',cur,hv,-⟩
   ·subst hv;have hF:F=[]:=Zx.1 h0;clear hu3 h0;go_wp2_with fail;refine(Zka _ _).mono ?_;rintro e w2 ⟨rfl,hw⟩;replace hw:=hw.symm;subst hw;go_wp2_with fail;go_ret;subst hF;exact⟨_,[],rfl,List.Pairwise.nil,by rw[HFE.o];exact Cls.refl _ _,ZO _ _ _ _,hB.out⟩
   ·subst hv;have HSR:=Zc (sort_row hown.out rfl hB.out.size (by omega));obtain⟨nF,hnF⟩:=Za (F.length);rw[hnF] at HSR;have HNF:=Zc hnF;have e0:Value.slice (some ⟨g,0,none⟩) F.length cap'=.slice (some ⟨g,0,none⟩) nF cap':=by rw[hnF]
    rw[e0];clear hnF hu3 e0;go_wp2_with fail;refine HSR.o.mono ?_;rintro e w2 ⟨rfl,C,c1,c2,c3,c4,c5⟩;have H2:=Zc (Zd c1 (Zd c2 (Zd c3 (Zd c4 c5))));clear c1 c2 c3 c4 c5;go_wp2_with fail;go_ret;refine⟨_,C,rfl,H2.o.1,by rw[HFE.o];exact H2.o.2.1,?_,hB.out.trans H2.o.2.2.2.2⟩;rw[H2.o.2.2.1];exact H2.o.2.2.2.1
end
section
open Go.RowKit
attribute [local go_sem ↓] Go.wp_at_zero Go.wp_at_succ
theorem Zkh (t:UInt8)(w:World):Calls prog 97 #[.int .u8 t.toNat] w λe w'=>e=.returned (.int .i64 (Xn t:Nat))∧w'=w:=by
 have ne:∀u:UInt8,t≠u→(((t.toNat:Int))==(u.toNat:Int))=false:=by intro u hu;rw[Zz];intro e;exact hu (YG.1 (by omega))
 have hall:t=97∨t=101∨t=120∨t=100∨t=117∨(t≠97∧t≠101∧t≠120∧t≠100∧t≠117):=by
  by_cases h1:t=97
  ·exact .inl h1
  ·by_cases h2:t=101
   ·exact .inr (.inl h2)
   ·by_cases h3:t=120
    ·exact .inr (.inr (.inl h3))
    ·by_cases h4:t=100
     ·exact .inr (.inr (.inr (.inl h4)))
     ·by_cases h5:t=117
      ·exact .inr (.inr (.inr (.inr (.inl h5))))
      ·exact .inr (.inr (.inr (.inr (.inr ⟨h1,h2,h3,h4,h5⟩))))
 rcases hall with rfl|rfl|rfl|rfl|rfl|⟨h1,h2,h3,h4,h5⟩
 ·go_enter func97,ntmps97;go_wp2
  go_ret;exact⟨rfl,rfl⟩
 ·go_enter func97,ntmps97;go_wp2
  go_ret;exact⟨rfl,rfl⟩
 ·go_enter func97,ntmps97;go_wp2
  go_ret;exact⟨rfl,rfl⟩
 ·go_enter func97,ntmps97;go_wp2
  go_ret;exact⟨rfl,rfl⟩
 ·go_enter func97,ntmps97;go_wp2
  go_ret;exact⟨rfl,rfl⟩
 ·have e1:(((t.toNat:Int))==97)=false:=ne 97 h1;have e2:(((t.toNat:Int))==101)=false:=ne 101 h2;have e3:(((t.toNat:Int))==120)=false:=ne 120 h3;have e4:(((t.toNat:Int))==100)=false:=ne 100 h4;have e5:(((t.toNat:Int))==117)=false:=ne 117 h5;have HS:Hid (Xn t=0):=by show _=_;unfold Xn;rw[Zj h1,Zj h2,Zj h3,Zj h4,Zj h5]
  clear ne h1 h2 h3 h4 h5;go_enter func97,ntmps97;go_wp2
  go_ret;exact⟨by rw[HS.o];rfl,rfl⟩
def rfi (S:List Ord)(t:Nat):Int:=match rfind S t with|some i=>(i:Int)|none => -1
theorem Zk5 {t i:Nat}(hi:i<S.length)(h1:∀j,j<i→∀x,S[j]?=some x→x.ref≠t)(h2:∀x,S[i]?=some x→x.ref=t):rfi S t=(i:Int):=by
 unfold rfi;have:rfind S t=some i:=by unfold rfind;rw[Yy];refine⟨hi,by simpa using h2 _ (Zp hi),?_⟩;intro j hj;simpa using h1 j hj _ (Zp (by omega))
 rw[this]
theorem rfi_none {t:Nat}(h:∀x∈S,x.ref≠t):rfi S t = -1:=by unfold rfi rfind;rw[List.findIdx?_eq_none_iff.2 (λx hx=>by simpa using h x hx)]
theorem UP (w:World)(base:Nat)(v:Value)(S:List Ord)(t:Nat)(h:RsAt w base v S):
  Calls prog 135 #[v,.int .i64 t] w λe w'=>e=.returned (.int .i64 (rfi S t))∧w'=w:=by
 obtain⟨ra,cap,rfl,h1,h2,hc⟩:=h.form;have HC:=Zc hc;clear h hc;have hl1:(S.length:Int)≤9223372036854775807:=by unfold maxLen at h2;omega
 go_enter func135,ntmps135;go_wp2_with fail;go_loopw [5] (λi wr=>∃k:Nat,k≤S.length∧i=.int .i64 k∧Hid (wr=w∧∀j,j<k→∀x,S[j]?=some x→x.ref≠t)) (λi _=>S.length-(intOf i).toNat)
 case atStart=>exact⟨0,Zy _,rfl,rfl,λj hj=>by omega⟩
 case round=>
  obtain⟨k,hk,rfl,HR⟩:=hrel;by_cases hlt:k<S.length
  ·obtain⟨x,hx⟩:∃x,S[k]?=some x:=⟨_,Zp hlt⟩;obtain⟨g,rfl,-,-,-,hrg⟩:=HC.o k x hx;have c0:w.cell? ⟨g,k*6,none⟩=some (.int .i64 x.ref):=hrg 0 _ rfl;rw[←HR.o.1] at c0;have i1:(0:Int)≤(k:Int):=by omega
   have i2:(k:Int)<(S.length:Int):=by omega
   by_cases ht:x.ref=t
   ·have ht1:((x.ref:Int)==(t:Int))=true:=by simp[ht]
    have HE:Hid (rfi S t=(k:Int)):=Zk5 hlt HR.o.2 (λy hy=>by rw[hx] at hy;cases hy;exact ht);clear ht hx hrg;go_wp2_with fail;go_ret;exact⟨by rw[HE.o];rfl,HR.o.1⟩
   ·have ht1:((x.ref:Int)==(t:Int))=false:=by rw[Zz];omega
    have HE:Hid (∀j,j<k+1→∀x,S[j]?=some x→x.ref≠t):=by
     intro j hj y hy;by_cases hjk:j=k
     ·subst hjk;rw[hx] at hy;cases hy;exact ht
     ·exact HR.o.2 j (by omega) y hy
    clear ht hx hrg;go_wp2_with fail;exact⟨⟨k+1,by omega,by go_num,HR.o.1,HE.o⟩,by simp[intOf];omega⟩
  ·have HE:Hid (rfi S t = -1):=rfi_none (λx hx=>by obtain⟨j,hj,e⟩:=List.getElem_of_mem hx;exact HR.o.2 j (by omega) x (by rw[Zp hj,e]))
   go_wp2_with fail;go_ret;exact⟨by rw[HE.o];rfl,HR.o.1⟩
def RefP (res:Option (List Ord))(base:Nat)(w:World)(e:Ending)(w':World):Prop:=
 Below base w w'∧((res=none∧e=.returned (.tuple #[.slice none 0 0,.bool false]))∨∃S' v',res=some S'∧e=.returned (.tuple #[v',.bool true])∧RsAt w' base v' S'∧SmR S')
def ixv :Option Nat→Int
 | none => -1
 | some i=>(i:Int)
theorem TP (S:List Ord)(t:Nat):rfi S t=ixv (rfind S t):=by unfold rfi ixv;cases rfind S t<;>rfl
theorem Zd9 {v:Value}(h:RsAt w base v S)(hsm:SmR S)(hb:base≤w.heap.size)(hn:S.length≤1000000000)(iop:Option Nat)(hi:∀i,iop=some i→i<S.length)(n:Nat)(hn2:n<65536)(all:Bool):
  Calls prog 136 #[v,.int .i64 (ixv iop),.int .i64 n,.bool all] w (RefP (VF S iop n all) base w):=by
 cases iop with
 | none=>
  have HR:Hid (VF S none n all=none):=rfl;generalize VF S none n all=res at *;have hx:ixv none = -1:=rfl;rw[hx];clear h hi hx;go_enter func136,ntmps136;go_wp2_with fail;go_ret2
  exact⟨Zm _ _,Or.inl ⟨HR.o,rfl⟩⟩
 | some i=>
  have hil:=hi i rfl;obtain⟨o,ho⟩:∃o,S[i]?=some o:=⟨_,Zp hil⟩;have hR:VF S (some i) n all=if n=0∨o.qa<n∨(n=o.qa∧all=false) then none else if n=o.qa then some (S.eraseIdx i) else some (S.set i {o with qa:=o.qa-n}):=by simp only[VF,ho]
  generalize VF S (some i) n all=res at *;obtain⟨ra,cap,rfl,hc1,hc2,hcs⟩:=h.form;obtain⟨g,rfl,hbg,hgl,hfz,hrg⟩:=hcs i o ho;have c5:w.cell? ⟨g,i*6+5,none⟩=some (.int .i64 o.qa):=hrg 5 _ rfl;have f5:=hfz (i*6+5);have hos:=hsm o (ZW ho);have hosh:=hos.1.qa;have i1:(0:Int)≤(i:Int):=by omega
  have i2:(i:Int)<(S.length:Int):=by omega
  have i3:¬(i:Int)<0:=by omega
  have HH:=Zc (Zd h (Zd ho hsm));have hx:ixv (some i)=(i:Int):=rfl;rw[hx];clear h hcs hfz hrg hi hx;by_cases h0:n=0
  ·have b0:((n:Int)==0)=true:=by simp[h0]
   have HE:Hid (res=none):=by rw[hR,Zg (Or.inl h0)];rfl
   clear hR h0;go_enter func136,ntmps136;go_wp2_with fail;go_ret2
   exact⟨Zm _ _,Or.inl ⟨HE.o,rfl⟩⟩
  ·have b0:((n:Int)==0)=false:=by rw[Zz];omega
   by_cases h1:o.qa<n
   ·have b1:(o.qa:Int)<(n:Int):=by omega
    have HE:Hid (res=none):=by rw[hR,Zg (Or.inr (Or.inl h1))];rfl
    clear hR h0 h1;go_enter func136,ntmps136;go_wp2_with fail;go_ret2
    exact⟨Zm _ _,Or.inl ⟨HE.o,rfl⟩⟩
   ·have b1:¬(o.qa:Int)<(n:Int):=by omega
    by_cases h2:n=o.qa
    ·have b2:((n:Int)==(o.qa:Int))=true:=by simp[h2]
     cases all with
     | false=>
      have HE:Hid (res=none):=by rw[hR,Zg (Or.inr (Or.inr ⟨h2,rfl⟩))];rfl
      clear hR h0 h1 h2;go_enter func136,ntmps136;go_wp2_with fail;go_ret2
      exact⟨Zm _ _,Or.inl ⟨HE.o,rfl⟩⟩
     | true=>
      have HE:Hid (res=some (S.eraseIdx i)):=by rw[hR,Zj (by rintro(hh|hh|hh);exact h0 hh;exact h1 hh;cases hh.2),Zg h2];rfl
      have HWO:=Zc (XV w base _ S i HH.o.1 hil hn);clear hR h0 h1 h2;go_enter func136,ntmps136;go_wp2_with fail;refine HWO.o.mono ?_;rintro e w2 ⟨v2,rfl,hr2,hb2⟩;have H2:=Zc (Zd hr2 hb2);clear hr2 hb2;go_wp2_with fail;go_ret2
      exact⟨H2.o.2.mono hb,Or.inr ⟨_,v2,HE.o,rfl,Xs H2.o.1 hb,HH.o.2.2.erase i⟩⟩
    ·have b2:((n:Int)==(o.qa:Int))=false:=by rw[Zz];omega
     have HE:Hid (res=some (S.set i {o with qa:=o.qa-n})):=by rw[hR,Zj (by rintro(hh|hh|hh);exact h0 hh;exact h1 hh;exact h2 hh.1),Zj h2];rfl
     obtain⟨d,hd⟩:=Za (o.qa-n);have w1:IntKind.i64.wrap ((o.qa:Int)-(n:Int))=(d:Int):=by rw[Zq];omega
     have w2:(o.qa:Int)-(n:Int)=(d:Int):=by omega
     have HD:=Zc hd;clear hR h0 h1 h2 hd;go_enter func136,ntmps136;go_wp2_with fail;go_ret2
     refine⟨(Fr.setCell w ⟨g,i*6+5,none⟩ _).belowB hb hbg,Or.inr ⟨_,_,HE.o,rfl,?_,?_⟩⟩
     ·rw[HD.o];exact HH.o.1.put i 5 o {o with qa:=d} (.int .i64 d) HH.o.2.1 (by omega) rfl
     ·rw[HD.o];exact HH.o.2.2.set ⟨⟨hos.1.ref,hos.1.qf,hos.1.qd,hos.1.qc,by show d<65536;have:=HD.o;omega⟩,hos.2⟩
theorem UV (M:List UInt8)(k i n:Nat):num ((M.drop (k+i)).take n) 0=at_ (M.drop k) i n:=by unfold at_;rw[List.drop_drop]
theorem Zim {v:Value}(h:RsAt w base v S)(hsm:SmR S)(hb:base≤w.heap.size)(hn:S.length≤1000000000)(iop:Option Nat)(hi:∀i,iop=some i→i<S.length)(gm om cm:Nat)(M:List UInt8)(hM:Lies w gm om M)(hl:M.length=19)(hc:19≤cm)(hcm:cm≤9223372036854775807)(_hgm:gm<base):
  Calls prog 137 #[v,.int .i64 (ixv iop),.slice (some ⟨gm,om,none⟩) 19 cm] w (RefP (VX S iop (M.drop 7)) base w):=by
 have hu:=UA (M.drop 7) 4;have hm:=XY (M.drop 7) 8;have hp:=XY (M.drop 7) 10;have HS:Hid (∀u m p,at_ (M.drop 7) 4 4=u→at_ (M.drop 7) 8 2=m→at_ (M.drop 7) 10 2=p→∀i o,iop=some i→S[i]?=some o→VX S iop (M.drop 7)=(if m=0∨((rfind S u).isSome∧rfind S u≠some i) then none
   else if p=o.qc∧m≤o.qa then some (S.set i {ref:=u,qf:=0,qe:=o.qe,qd:=o.qd,qc:=p,qa:=m}) else some (insO {ref:=u,qf:=0,qe:=o.qe,qd:=o.qd,qc:=p,qa:=m} (S.eraseIdx i)))):=by
  rintro u m p rfl rfl rfl i o rfl ho;simp only[VX,ho];rfl
 have HS0:Hid (iop=none→VX S iop (M.drop 7)=none):=by rintro rfl;rfl
 obtain⟨u,hue⟩:=Za (at_ (M.drop 7) 4 4);obtain⟨m,hme⟩:=Za (at_ (M.drop 7) 8 2);obtain⟨p,hpe⟩:=Za (at_ (M.drop 7) 10 2);have HR:=Zc (HS.o u m p hue hme hpe);have HV:Hid (Calls prog 124 #[.slice (some ⟨gm,om+11,none⟩) 4 (cm-11)] w (λe w'=>e=.returned (.int .i64 u)∧w'=w)∧Calls prog 124 #[.slice (some ⟨gm,om+15,none⟩) 2 (cm-15)] w (λe w'=>e=.returned (.int .i64 m)∧w'=w)∧Calls prog 124 #[.slice (some ⟨gm,om+17,none⟩) 2 (cm-17)] w (λe w'=>e=.returned (.int .i64 p)∧w'=w)):=
  ⟨XH hM 11 4 _ u (by omega) (by omega) (by rw[←hue];exact UV M 7 4 4),XH hM 15 2 _ m (by omega) (by omega) (by rw[←hme];exact UV M 7 8 2),XH hM 17 2 _ p (by omega) (by omega) (by rw[←hpe];exact UV M 7 10 2)⟩
 rw[hue] at hu;rw[hme] at hm;rw[hpe] at hp;generalize VX S iop (M.drop 7)=res at *;have HF:=Zc (UP w base v S u h);rw[TP] at HF;have i4:(19:Int)≤(cm:Int):=by omega
 have i5:(cm:Int)≤9223372036854775807:=by omega
 have HH:=Zc (Zd h hsm);have HU:=Zc hu;clear HS hue hme hpe hM hl hc hcm;obtain⟨ra,cap,hv,hc1,hc2,hcs⟩:=h.form;subst hv;go_enter func137,ntmps137;go_wp2_with fail;refine HV.o.1.mono (Zb ?_);go_wp2_with fail;refine HF.o.mono (Zb ?_);go_wp2_with fail;refine HV.o.2.1.mono (Zb ?_);go_wp2_with fail;refine HV.o.2.2.mono (Zb ?_);clear HV HF;cases iop with
 | none=>
  have hx:ixv none = -1:=rfl;rw[hx];have HE:=Zc (HS0.o rfl);clear hx HS0 HR hcs;go_wp2_with fail;go_ret2
  exact⟨Zm _ _,Or.inl ⟨HE.o,rfl⟩⟩
 | some i=>
  have hil:=hi i rfl;obtain⟨o,ho⟩:∃o,S[i]?=some o:=⟨_,Zp hil⟩;have hR:=HR.o i o rfl ho;obtain⟨g,rfl,hbg,hgl,hfz,hrg⟩:=hcs i o ho;have hx:ixv (some i)=(i:Int):=rfl;rw[hx];have hos:=hsm o (ZW ho);have i1:(0:Int)≤(i:Int):=by omega
  have i2:(i:Int)<(S.length:Int):=by omega
  have i3:¬(i:Int)<0:=by omega
  have HO:=Zc ho;obtain⟨c0,c1,c2,c3,c4,c5⟩:w.cell? ⟨g,i*6,none⟩=some (.int .i64 o.ref)∧w.cell? ⟨g,i*6+1,none⟩=some (.int .i64 o.qf)∧w.cell? ⟨g,i*6+2,none⟩=some (.int .u8 o.qe.toNat)∧w.cell? ⟨g,i*6+3,none⟩=some (.int .i64 o.qd)∧w.cell? ⟨g,i*6+4,none⟩=some (.int .i64 o.qc)∧w.cell? ⟨g,i*6+5,none⟩=some (.int .i64 o.qa):=⟨hrg 0 _ rfl,hrg 1 _ rfl,hrg 2 _ rfl,hrg 3 _ rfl,hrg 4 _ rfl,hrg 5 _ rfl⟩;rw[hos.2] at c1;have HFZ:=Zc hfz;clear hx hcs HS0 HR hi hrg hfz h ho hsm;by_cases h0:m=0
  ·have b0:((m:Int)==0)=true:=by simp[h0]
   have HE:Hid (res=none):=by rw[hR,Zg (Or.inl h0)];rfl
   clear hR h0;go_wp2_with fail;go_ret2
   exact⟨Zm _ _,Or.inl ⟨HE.o,rfl⟩⟩
  ·have b0:((m:Int)==0)=false:=by rw[Zz];omega
   by_cases hbad:(rfind S u).isSome=true∧rfind S u≠some i
   ·obtain⟨k,hk⟩:=Option.isSome_iff_exists.1 hbad.1;have hki:k≠i:=λe=>hbad.2 (by rw[hk,e]);have HE:Hid (res=none):=by rw[hR,Zg (Or.inr hbad)];rfl
    have hxk:ixv (rfind S u)=(k:Int):=by rw[hk];rfl
    rw[hxk];have b1:(0:Int)≤(k:Int):=by omega
    have b2:((k:Int)==(i:Int))=false:=by rw[Zz];omega
    have b2':((k:Int) !=(i:Int))=true:=by rw[bne,b2];rfl
    clear hR h0 hbad hk hki hxk;go_wp2_with fail;go_ret2
    exact⟨Zm _ _,Or.inl ⟨HE.o,rfl⟩⟩
   ·have hR2:res=if p=o.qc∧m≤o.qa then some (S.set i {ref:=u,qf:=0,qe:=o.qe,qd:=o.qd,qc:=p,qa:=m}) else some (insO {ref:=u,qf:=0,qe:=o.qe,qd:=o.qd,qc:=p,qa:=m} (S.eraseIdx i)):=by rw[hR,Zj (by rintro(hh|hh);exact h0 hh;exact hbad hh)]
    have hfc:rfind S u=none∨rfind S u=some i:=by
     cases hf:rfind S u with
     | none=>exact .inl rfl
     | some k=>
      right
      by_cases e:k=i
      ·rw[e]
      ·exact absurd ⟨by rw[hf];rfl,by rw[hf];intro e2;exact e (Zv e2)⟩ hbad
    have HR2:=Zc hR2;have HYS:Hid (Ord.small {ref:=u,qf:=0,qe:=o.qe,qd:=o.qd,qc:=p,qa:=m}):=⟨HU.o,by show 0<4294967296;omega,hos.1.qd,hp,hm⟩;clear hR hR2 hbad h0;rcases hfc with hf|hf
    ·have hxk:ixv (rfind S u) = -1:=by rw[hf];rfl
     rw[hxk];clear hxk hf;by_cases hk:p=o.qc∧m≤o.qa
     ·have HE:Hid (res=some (S.set i {ref:=u,qf:=0,qe:=o.qe,qd:=o.qd,qc:=p,qa:=m})):=by have:=HR2.o;rw[Zg hk] at this;exact this
      have b3:((p:Int)==(o.qc:Int))=true:=by simp[hk.1]
      have b4:(m:Int)≤(o.qa:Int):=by have:=hk.2;omega
      have f0:=HFZ.o (i*6);have f1:=HFZ.o (i*6+1);have f2:=HFZ.o (i*6+2);have f3:=HFZ.o (i*6+3);have f4:=HFZ.o (i*6+4);have f5:=HFZ.o (i*6+5);have HPA:Hid (RsAt ((((((w.setCell ⟨g,i*6,none⟩ (.int .i64 u)).setCell ⟨g,i*6+1,none⟩ (.int .i64 0)).setCell ⟨g,i*6+2,none⟩ (.int .u8 o.qe.toNat)).setCell ⟨g,i*6+3,none⟩ (.int .i64 o.qd)).setCell ⟨g,i*6+4,none⟩ (.int .i64 p)).setCell ⟨g,i*6+5,none⟩ (.int .i64 m)) base (.slice (some ⟨g,0,none⟩) S.length cap) (S.set i {ref:=u,qf:=0,qe:=o.qe,qd:=o.qd,qc:=p,qa:=m})):=HH.o.1.putAll i o {ref:=u,qf:=0,qe:=o.qe,qd:=o.qd,qc:=p,qa:=m} HO.o;have HFR:Hid (Fr (λk=>k=g) w ((((((w.setCell ⟨g,i*6,none⟩ (.int .i64 u)).setCell ⟨g,i*6+1,none⟩ (.int .i64 0)).setCell ⟨g,i*6+2,none⟩ (.int .u8 o.qe.toNat)).setCell ⟨g,i*6+3,none⟩ (.int .i64 o.qd)).setCell ⟨g,i*6+4,none⟩ (.int .i64 p)).setCell ⟨g,i*6+5,none⟩ (.int .i64 m))):=
       (((((Fr.setCell w ⟨g,i*6,none⟩ _).trans (Fr.setCell _ ⟨g,i*6+1,none⟩ _) (λ_ _ e=>e)).trans (Fr.setCell _ ⟨g,i*6+2,none⟩ _) (λ_ _ e=>e)).trans (Fr.setCell _ ⟨g,i*6+3,none⟩ _) (λ_ _ e=>e)).trans (Fr.setCell _ ⟨g,i*6+4,none⟩ _) (λ_ _ e=>e)).trans (Fr.setCell _ ⟨g,i*6+5,none⟩ _) (λ_ _ e=>e)
      clear hk HR2;go_wp2_with fail;go_ret2
      have hB:=HFR.o.belowB hb hbg;refine⟨hB.alloc (Zw hb hB.size) _,Or.inr ⟨_,_,HE.o,rfl,?_,HH.o.2.set ⟨HYS.o,rfl⟩⟩⟩;exact YY HPA.o (λg' hg'=>by rw[YX,Zj (by have:=(Zs HPA.o g' hg').2;omega)])
     ·have HE:Hid (res=some (insO {ref:=u,qf:=0,qe:=o.qe,qd:=o.qd,qc:=p,qa:=m} (S.eraseIdx i))):=by have:=HR2.o;rw[Zj hk] at this;exact this
      have hcase:((p:Int)==(o.qc:Int))=false∨(((p:Int)==(o.qc:Int))=true∧¬(m:Int)≤(o.qa:Int)):=by
       by_cases e:p=o.qc
       ·right
        exact⟨by simp[e],λe2=>hk ⟨e,by omega⟩⟩
       ·left
        rw[Zz];omega
      clear hk HR2;rcases hcase with b3|⟨b3,b4⟩;all_goals
       go_wp2_with fail;generalize hOb:Obj.cells _ 40=O;have hbx:∀t x,([.int .i64 u,.int .i64 0,.int .u8 o.qe.toNat,.int .i64 o.qd,.int .i64 p,.int .i64 m]:List Value)[t]?=some x→(w.alloc O).cell? ⟨w.heap.size,t,none⟩=some x:=λt x hx=>by rw[←hOb];exact XM _ _ _ t _ (by simpa using hx)
       have hBO:Below base w (w.alloc O):=(Zm base w).alloc hb O;have hSO:RsAt (w.alloc O) base (.slice (some ⟨g,0,none⟩) S.length cap) S:=YY HH.o.1 (λg' hg'=>by rw[YX,Zj (by have:=(Zs HH.o.1 g' hg').2;omega)]);have hszO:(w.alloc O).heap.size=w.heap.size+1:=Xb _ _;clear hOb;generalize w.alloc O=W at hbx hBO hSO hszO ⊢;refine(XV W base _ S i hSO hil hn).mono ?_;rintro e w2 ⟨v2,rfl,hr2,hb2⟩;have k0:w2.cell? ⟨w.heap.size,0,none⟩=some (.int .i64 u):=(hb2.cell (p:=⟨w.heap.size,0,none⟩) (show w.heap.size<W.heap.size by omega)).trans (hbx 0 _ rfl);have k1:w2.cell? ⟨w.heap.size,1,none⟩=some (.int .i64 0):=(hb2.cell (p:=⟨w.heap.size,1,none⟩) (show w.heap.size<W.heap.size by omega)).trans (hbx 1 _ rfl);have k2:w2.cell? ⟨w.heap.size,2,none⟩=some (.int .u8 o.qe.toNat):=(hb2.cell (p:=⟨w.heap.size,2,none⟩) (show w.heap.size<W.heap.size by omega)).trans (hbx 2 _ rfl);have k3:w2.cell? ⟨w.heap.size,3,none⟩=some (.int .i64 o.qd):=(hb2.cell (p:=⟨w.heap.size,3,none⟩) (show w.heap.size<W.heap.size by omega)).trans (hbx 3 _ rfl);have k4:w2.cell? ⟨w.heap.size,4,none⟩=some (.int .i64 p):=(hb2.cell (p:=⟨w.heap.size,4,none⟩) (show w.heap.size<W.heap.size by omega)).trans (hbx 4 _ rfl);have k5:w2.cell? ⟨w.heap.size,5,none⟩=some (.int .i64 m):=(hb2.cell (p:=⟨w.heap.size,5,none⟩) (show w.heap.size<W.heap.size by omega)).trans (hbx 5 _ rfl);have HB2:Hid (Below base w w2):=hBO.trans (hb2.mono (Zw hb hBO.size));have HIN:Hid (Calls prog 134 #[v2,.agg #[.int .i64 u,.int .i64 0,.int .u8 o.qe.toNat,.int .i64 o.qd,.int .i64 p,.int .i64 m]] w2 λe w'=>∃v',e=.returned v'∧RsAt w' w2.heap.size v' (insO {ref:=u,qf:=0,qe:=o.qe,qd:=o.qd,qc:=p,qa:=m} (S.eraseIdx i))∧Below w2.heap.size w2 w'):=VM w2 W.heap.size v2 (S.eraseIdx i) {ref:=u,qf:=0,qe:=o.qe,qd:=o.qd,qc:=p,qa:=m} hr2 (by rw[YS];split<;>omega);obtain⟨r2,cap2,hv2,-,-,-⟩:=hr2.form;subst hv2;clear hbx hBO hSO hszO hr2 hb2 c0 c1 c2 c3 c4 c5;go_wp2_with fail;refine HIN.o.mono ?_;rintro e w3 ⟨v3,rfl,hr3,hb3⟩;have H3:=Zc (Zd hr3 hb3);clear hr3 hb3;go_wp2_with fail;go_ret2
       have hbw2:=Zw hb HB2.o.size;exact⟨HB2.o.trans (H3.o.2.mono hbw2),Or.inr ⟨_,v3,HE.o,rfl,Xs H3.o.1 hbw2,(HH.o.2.erase i).ins ⟨HYS.o,rfl⟩⟩⟩
    ·have hxk:ixv (rfind S u)=(i:Int):=by rw[hf];rfl
     rw[hxk];have b2:((i:Int)==(i:Int))=true:=by simp
     have b2':((i:Int) !=(i:Int))=false:=by rw[bne,b2];rfl
     clear hxk hf;by_cases hk:p=o.qc∧m≤o.qa
     ·have HE:Hid (res=some (S.set i {ref:=u,qf:=0,qe:=o.qe,qd:=o.qd,qc:=p,qa:=m})):=by have:=HR2.o;rw[Zg hk] at this;exact this
      have b3:((p:Int)==(o.qc:Int))=true:=by simp[hk.1]
      have b4:(m:Int)≤(o.qa:Int):=by have:=hk.2;omega
      have f0:=HFZ.o (i*6);have f1:=HFZ.o (i*6+1);have f2:=HFZ.o (i*6+2);have f3:=HFZ.o (i*6+3);have f4:=HFZ.o (i*6+4);have f5:=HFZ.o (i*6+5);have HPA:Hid (RsAt ((((((w.setCell ⟨g,i*6,none⟩ (.int .i64 u)).setCell ⟨g,i*6+1,none⟩ (.int .i64 0)).setCell ⟨g,i*6+2,none⟩ (.int .u8 o.qe.toNat)).setCell ⟨g,i*6+3,none⟩ (.int .i64 o.qd)).setCell ⟨g,i*6+4,none⟩ (.int .i64 p)).setCell ⟨g,i*6+5,none⟩ (.int .i64 m)) base (.slice (some ⟨g,0,none⟩) S.length cap) (S.set i {ref:=u,qf:=0,qe:=o.qe,qd:=o.qd,qc:=p,qa:=m})):=HH.o.1.putAll i o {ref:=u,qf:=0,qe:=o.qe,qd:=o.qd,qc:=p,qa:=m} HO.o;have HFR:Hid (Fr (λk=>k=g) w ((((((w.setCell ⟨g,i*6,none⟩ (.int .i64 u)).setCell ⟨g,i*6+1,none⟩ (.int .i64 0)).setCell ⟨g,i*6+2,none⟩ (.int .u8 o.qe.toNat)).setCell ⟨g,i*6+3,none⟩ (.int .i64 o.qd)).setCell ⟨g,i*6+4,none⟩ (.int .i64 p)).setCell ⟨g,i*6+5,none⟩ (.int .i64 m))):=
       (((((Fr.setCell w ⟨g,i*6,none⟩ _).trans (Fr.setCell _ ⟨g,i*6+1,none⟩ _) (λ_ _ e=>e)).trans (Fr.setCell _ ⟨g,i*6+2,none⟩ _) (λ_ _ e=>e)).trans (Fr.setCell _ ⟨g,i*6+3,none⟩ _) (λ_ _ e=>e)).trans (Fr.setCell _ ⟨g,i*6+4,none⟩ _) (λ_ _ e=>e)).trans (Fr.setCell _ ⟨g,i*6+5,none⟩ _) (λ_ _ e=>e)
      clear hk HR2;go_wp2_with fail;go_ret2
      have hB:=HFR.o.belowB hb hbg;refine⟨hB.alloc (Zw hb hB.size) _,Or.inr ⟨_,_,HE.o,rfl,?_,HH.o.2.set ⟨HYS.o,rfl⟩⟩⟩;exact YY HPA.o (λg' hg'=>by rw[YX,Zj (by have:=(Zs HPA.o g' hg').2;omega)])
     ·have HE:Hid (res=some (insO {ref:=u,qf:=0,qe:=o.qe,qd:=o.qd,qc:=p,qa:=m} (S.eraseIdx i))):=by have:=HR2.o;rw[Zj hk] at this;exact this
      have hcase:((p:Int)==(o.qc:Int))=false∨(((p:Int)==(o.qc:Int))=true∧¬(m:Int)≤(o.qa:Int)):=by
       by_cases e:p=o.qc
       ·right
        exact⟨by simp[e],λe2=>hk ⟨e,by omega⟩⟩
       ·left
        rw[Zz];omega
      clear hk HR2;rcases hcase with b3|⟨b3,b4⟩;all_goals
       go_wp2_with fail;generalize hOb:Obj.cells _ 40=O;have hbx:∀t x,([.int .i64 u,.int .i64 0,.int .u8 o.qe.toNat,.int .i64 o.qd,.int .i64 p,.int .i64 m]:List Value)[t]?=some x→(w.alloc O).cell? ⟨w.heap.size,t,none⟩=some x:=λt x hx=>by rw[←hOb];exact XM _ _ _ t _ (by simpa using hx)
       have hBO:Below base w (w.alloc O):=(Zm base w).alloc hb O;have hSO:RsAt (w.alloc O) base (.slice (some ⟨g,0,none⟩) S.length cap) S:=YY HH.o.1 (λg' hg'=>by rw[YX,Zj (by have:=(Zs HH.o.1 g' hg').2;omega)]);have hszO:(w.alloc O).heap.size=w.heap.size+1:=Xb _ _;clear hOb;generalize w.alloc O=W at hbx hBO hSO hszO ⊢;refine(XV W base _ S i hSO hil hn).mono ?_;rintro e w2 ⟨v2,rfl,hr2,hb2⟩;have k0:w2.cell? ⟨w.heap.size,0,none⟩=some (.int .i64 u):=(hb2.cell (p:=⟨w.heap.size,0,none⟩) (show w.heap.size<W.heap.size by omega)).trans (hbx 0 _ rfl);have k1:w2.cell? ⟨w.heap.size,1,none⟩=some (.int .i64 0):=(hb2.cell (p:=⟨w.heap.size,1,none⟩) (show w.heap.size<W.heap.size by omega)).trans (hbx 1 _ rfl);have k2:w2.cell? ⟨w.heap.size,2,none⟩=some (.int .u8 o.qe.toNat):=(hb2.cell (p:=⟨w.heap.size,2,none⟩) (show w.heap.size<W.heap.size by omega)).trans (hbx 2 _ rfl);have k3:w2.cell? ⟨w.heap.size,3,none⟩=some (.int .i64 o.qd):=(hb2.cell (p:=⟨w.heap.size,3,none⟩) (show w.heap.size<W.heap.size by omega)).trans (hbx 3 _ rfl);have k4:w2.cell? ⟨w.heap.size,4,none⟩=some (.int .i64 p):=(hb2.cell (p:=⟨w.heap.size,4,none⟩) (show w.heap.size<W.heap.size by omega)).trans (hbx 4 _ rfl);have k5:w2.cell? ⟨w.heap.size,5,none⟩=some (.int .i64 m):=(hb2.cell (p:=⟨w.heap.size,5,none⟩) (show w.heap.size<W.heap.size by omega)).trans (hbx 5 _ rfl);have HB2:Hid (Below base w w2):=hBO.trans (hb2.mono (Zw hb hBO.size));have HIN:Hid (Calls prog 134 #[v2,.agg #[.int .i64 u,.int .i64 0,.int .u8 o.qe.toNat,.int .i64 o.qd,.int .i64 p,.int .i64 m]] w2 λe w'=>∃v',e=.returned v'∧RsAt w' w2.heap.size v' (insO {ref:=u,qf:=0,qe:=o.qe,qd:=o.qd,qc:=p,qa:=m} (S.eraseIdx i))∧Below w2.heap.size w2 w'):=VM w2 W.heap.size v2 (S.eraseIdx i) {ref:=u,qf:=0,qe:=o.qe,qd:=o.qd,qc:=p,qa:=m} hr2 (by rw[YS];split<;>omega);obtain⟨r2,cap2,hv2,-,-,-⟩:=hr2.form;subst hv2;clear hbx hBO hSO hszO hr2 hb2 c0 c1 c2 c3 c4 c5;go_wp2_with fail;refine HIN.o.mono ?_;rintro e w3 ⟨v3,rfl,hr3,hb3⟩;have H3:=Zc (Zd hr3 hb3);clear hr3 hb3;go_wp2_with fail;go_ret2
       have hbw2:=Zw hb HB2.o.size;exact⟨HB2.o.trans (H3.o.2.mono hbw2),Or.inr ⟨_,v3,HE.o,rfl,Xs H3.o.1 hbw2,(HH.o.2.erase i).ins ⟨HYS.o,rfl⟩⟩⟩
end
end Go.Proofs.YtphkchjejbffeaaGreat
