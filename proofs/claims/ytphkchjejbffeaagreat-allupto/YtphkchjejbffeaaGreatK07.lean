/- J3, J4, J5, J6, J7, J8, J9, JA -/
import Derived.Test.YtphkchjejbffeaaGreatK06
import Derived.Deep.MidRow
set_option maxHeartbeats 16000000
set_option maxRecDepth 100000
namespace Go.Proofs.YtphkchjejbffeaaGreat
open Tryz
open Go.RowKit
variable {fl:List Nat}{free ln m n po taken:Nat}{aft aft' bef bef' fs ls:Nat→Nat}{od od':Nat→Ord}{ps:Nat→UInt8→Nat→List Nat}{w w':World}
section
open Go.RowKit
attribute [local go_sem ↓] Go.wp_at_zero Go.wp_at_succ
def XQ (bef aft:Nat→Nat)(od:Nat→Ord)(i:Nat):Nat→Value
 | 0=>.int .i64 (bef i)
 | 1=>.int .i64 (aft i)
 | 2=>.int .u32 (od i).ref
 | 3=>.int .u32 (od i).qf
 | 4=>.int .u8 (od i).qe.toNat
 | 5=>.int .u8 (od i).qd
 | 6=>.int .u16 (od i).qc
 | _=>.int .u16 (od i).qa
structure IsP (w:World)(po n:Nat)(bef aft:Nat→Nat)(od:Nat→Ord):Prop where
 blk:w.heap[po]?=some (.cells (Xv n 8 (XQ bef aft od)) 108)
theorem IsP.cell (h:IsP w po n bef aft od)(i j:Nat)(hi:i<n)(hj:j<8):w.cell? ⟨po,i*8+j,none⟩=some (XQ bef aft od i j):=by rw[Zk w po _ _ _ (0,0) h.blk,VI _ _ _ _ _ hi hj]
theorem IsP.frozen (h:IsP w po n bef aft od)(i:Nat):w.frozen? ⟨po,i,none⟩=false:=by simp[World.frozen?,h.blk]
theorem IsP.lt (h:IsP w po n bef aft od):po<w.heap.size:=(Ze.1 h.blk).1
theorem IsP.keep (h:IsP w po n bef aft od)(hk:w'.heap[po]?=w.heap[po]?):IsP w' po n bef aft od:=⟨hk.trans h.blk⟩
theorem IsP.setBef (h:IsP w po n bef aft od)(i v:Nat):IsP (w.setCell ⟨po,i*8,none⟩ (.int .i64 v)) po n (updN bef i v) aft od:=by
 refine⟨?_⟩;rw[Zi w po (i*8) _ _ _ h.blk];have:=Vv n 8 (XQ bef aft od) i 0 (by omega) (.int .i64 v);rw[Nat.add_zero] at this;rw[this]
 congr 3
 funext a b
 match b with
 | 0=>by_cases e:a=i<;>simp[XQ,updN,e]
 | 1|2|3|4|5|6|_+7=>simp[XQ]
theorem IsP.setAft (h:IsP w po n bef aft od)(i v:Nat):IsP (w.setCell ⟨po,i*8+1,none⟩ (.int .i64 v)) po n bef (updN aft i v) od:=by
 refine⟨?_⟩;rw[Zi w po (i*8+1) _ _ _ h.blk,Vv n 8 (XQ bef aft od) i 1 (by omega) (.int .i64 v)]
 congr 3
 funext a b
 match b with
 | 1=>by_cases e:a=i<;>simp[XQ,updN,e]
 | 0|2|3|4|5|6|_+7=>simp[XQ]
def UM (fs ls:Nat→Nat)(i:Nat):Nat→Value
 | 0=>.int .i64 (fs i)
 | _=>.int .i64 (ls i)
structure IsL (w:World)(ln m:Nat)(fs ls:Nat→Nat):Prop where
 blk:w.heap[ln]?=some (.cells (Xv m 2 (UM fs ls)) 134)
theorem IsL.cell (h:IsL w ln m fs ls)(i j:Nat)(hi:i<m)(hj:j<2):w.cell? ⟨ln,i*2+j,none⟩=some (UM fs ls i j):=by rw[Zk w ln _ _ _ (0,0) h.blk,VI _ _ _ _ _ hi hj]
theorem IsL.frozen (h:IsL w ln m fs ls)(i:Nat):w.frozen? ⟨ln,i,none⟩=false:=by simp[World.frozen?,h.blk]
theorem IsL.lt (h:IsL w ln m fs ls):ln<w.heap.size:=(Ze.1 h.blk).1
theorem IsL.keep (h:IsL w ln m fs ls)(hk:w'.heap[ln]?=w.heap[ln]?):IsL w' ln m fs ls:=⟨hk.trans h.blk⟩
theorem IsL.setF (h:IsL w ln m fs ls)(i v:Nat):IsL (w.setCell ⟨ln,i*2,none⟩ (.int .i64 v)) ln m (updN fs i v) ls:=by
 refine⟨?_⟩;rw[Zi w ln (i*2) _ _ _ h.blk];have:=Vv m 2 (UM fs ls) i 0 (by omega) (.int .i64 v);rw[Nat.add_zero] at this;rw[this]
 congr 3
 funext a b
 match b with
 | 0=>by_cases e:a=i<;>simp[UM,updN,e]
 | _+1=>simp[UM]
theorem IsL.setL (h:IsL w ln m fs ls)(i v:Nat):IsL (w.setCell ⟨ln,i*2+1,none⟩ (.int .i64 v)) ln m fs (updN ls i v):=by
 refine⟨?_⟩;rw[Zi w ln (i*2+1) _ _ _ h.blk,Vv m 2 (UM fs ls) i 1 (by omega) (.int .i64 v)]
 congr 2
 apply Array.ext
 ·simp[Xv]
 ·intro x h1 h2;simp only[Xv,Array.getElem_ofFn];have hx:x%2=0∨x%2=1:=by omega
  rcases hx with hx|hx
  ·simp[hx,UM]
  ·by_cases e:x / 2=i<;>simp[hx,UM,updN,e]
theorem Qd (po n i v:Nat)(bef aft:Nat→Nat)(od:Nat→Ord)(w:World)(h:IsP w po n bef aft od)(hi:i<n):
  Calls prog 170 #[.pointer (some ⟨po,i*8,none⟩),.int .i64 v] w λe w'=>e=.returned (.tuple #[])∧Hid (IsP w' po n (updN bef i v) aft od)∧Hid (Fr (λk=>k=po) w w'):=by
 refine(Zes po (i*8) v _ w (h.cell i 0 hi (by omega)) (h.frozen _)).mono ?_;rintro e w' ⟨rfl,rfl⟩;exact⟨rfl,h.setBef i v,Fr.setCell w ⟨po,i*8,none⟩ _⟩
theorem Vj (po n i v:Nat)(bef aft:Nat→Nat)(od:Nat→Ord)(w:World)(h:IsP w po n bef aft od)(hi:i<n):
  Calls prog 106 #[.pointer (some ⟨po,i*8,none⟩),.int .i64 v] w λe w'=>e=.returned (.tuple #[])∧Hid (IsP w' po n bef (updN aft i v) od)∧Hid (Fr (λk=>k=po) w w'):=by
 refine(Zc5 po (i*8) v _ w (h.cell i 1 hi (by omega)) (h.frozen _)).mono ?_;rintro e w' ⟨rfl,rfl⟩;exact⟨rfl,h.setAft i v,Fr.setCell w ⟨po,i*8+1,none⟩ _⟩
theorem Zhh (bk ln m q x f l:Nat)(k:KC)(bef aft fs ls:Nat→Nat)(od:Nat→Ord)(w:World)(hK:IsK w bk k)(hP:IsP w k.po k.n bef aft od)(hL:IsL w ln m fs ls)(hq:q<m)(hx:x<k.n)(hl:ls q<k.n)(hff:fs q=f)(hll:ls q=l)(_hn:k.n≤1000)
  (n1:bk≠k.po) (n2:ln≠k.po) (_n3:bk≠ln):
  Calls prog 165 #[.pointer (some ⟨bk,0,none⟩),.pointer (some ⟨ln,q*2,none⟩),.int .i64 x] w λe w'=>e=.returned (.tuple #[])∧
   IsP w' k.po k.n (updN bef x l) (updN (updN aft x 0) l x) od∧IsL w' ln m (updN fs q (if f=0 then x else f)) (updN ls q x)∧Fr (λj=>j=k.po∨j=ln) w w':=by
 have gK:w.cell? ⟨bk,0,none⟩=some (.slice (some ⟨k.po,0,none⟩) k.n k.n):=hK.cell 0;have gf:w.cell? ⟨ln,q*2,none⟩=some (.int .i64 f):=by rw[←hff];exact hL.cell q 0 hq (by omega)
 have gl:w.cell? ⟨ln,q*2+1,none⟩=some (.int .i64 l):=by rw[←hll];exact hL.cell q 1 hq (by omega)
 rw[hll] at hl;have HP:=Zc hP;have HL:=Zc hL;have HK:=Zc hK;have HF:=Zc hff;have i1:(x:Int)<(k.n:Int):=by omega
 have i2:(l:Int)<(k.n:Int):=by omega
 clear hP hL hK hff hll;go_enter func165,ntmps165;go_wp2_with fail;go_region_held3 (λw'=>w'.cell? ⟨ln,q*2+1,none⟩=some (.int .i64 l)) (first|exact m1|go_keep)
  ((go_at_call 170;refine(Qd k.po k.n x l bef aft od w.drew ⟨HP.o.blk⟩ hx).mono ?_;rintro e w1 ⟨rfl,hp1,hf1⟩;have m1:w1.cell? ⟨ln,q*2+1,none⟩=some (.int .i64 l):=hf1.out.cell (w:=w.drew) gl n2))
 have gK1:w1.cell? ⟨bk,0,none⟩=some (.slice (some ⟨k.po,0,none⟩) k.n k.n):=hf1.out.cell (w:=w.drew) gK n1;have gf1:w1.cell? ⟨ln,q*2,none⟩=some (.int .i64 f):=hf1.out.cell (w:=w.drew) gf n2;clear gK gf gl;go_wp2_with (go_at_call 106;refine(Vj k.po k.n x 0 _ _ od _ hp1.out hx).mono ?_;rintro e w2 ⟨rfl,hp2,hf2⟩;have gK2:w2.cell? ⟨bk,0,none⟩=some (.slice (some ⟨k.po,0,none⟩) k.n k.n):=hf2.out.cell gK1 n1;have gf2:w2.cell? ⟨ln,q*2,none⟩=some (.int .i64 f):=hf2.out.cell gf1 n2;have gl2:w2.cell? ⟨ln,q*2+1,none⟩=some (.int .i64 l):=hf2.out.cell m1 n2;clear gK1 gf1 m1)
 go_region_held3 (λw'=>w'.cell? ⟨ln,q*2+1,none⟩=some (.int .i64 l)∧w'.cell? ⟨bk,0,none⟩=some (.slice (some ⟨k.po,0,none⟩) k.n k.n)) (first|exact⟨m1,m2⟩|go_keep)
  ((go_at_call 106;refine(Vj k.po k.n l x _ _ od w2.drew ⟨hp2.out.blk⟩ hl).mono ?_;rintro e w3 ⟨rfl,hp3,hf3⟩;have m1:w3.cell? ⟨ln,q*2+1,none⟩=some (.int .i64 l):=hf3.out.cell (w:=w2.drew) gl2 n2;have m2:w3.cell? ⟨bk,0,none⟩=some (.slice (some ⟨k.po,0,none⟩) k.n k.n):=hf3.out.cell (w:=w2.drew) gK2 n1))
 have gf3:w3.cell? ⟨ln,q*2,none⟩=some (.int .i64 f):=hf3.out.cell (w:=w2.drew) gf2 n2;have HF3:Hid (Fr (λj=>j=k.po) w w3):=(Fr.drew _ w).trans ((hf1.out.trans (hf2.out.trans ((Fr.drew _ w2).trans hf3.out (λ_ _ h=>h)) (λ_ _ h=>h)) (λ_ _ h=>h))) (λ_ _ h=>h);have HL3:Hid (IsL w3 ln m fs ls):=HL.o.keep (HF3.o.block ln HL.o.lt n2);have fz:∀i,w3.frozen? ⟨ln,i,none⟩=false:=HL3.o.frozen;have fz0:=fz (q*2);have fz1:=fz (q*2+1);clear gf2 gl2 gK2 fz m2;by_cases h0:f=0
 ·subst h0;have HL4:Hid (IsL ((w3.setCell ⟨ln,q*2,none⟩ (.int .i64 x)).setCell ⟨ln,q*2+1,none⟩ (.int .i64 x)) ln m (updN fs q x) (updN ls q x)):=(HL3.o.setF q x).setL q x;have HF4:Hid (Fr (λj=>j=k.po∨j=ln) w ((w3.setCell ⟨ln,q*2,none⟩ (.int .i64 x)).setCell ⟨ln,q*2+1,none⟩ (.int .i64 x))):=
   (HF3.o.mono (λ_ _ h=>Or.inl h)).trans ((Fr.setCell w3 ⟨ln,q*2,none⟩ _).trans (Fr.setCell _ ⟨ln,q*2+1,none⟩ _) (λ_ _ h=>h)) (λ_ _ h=>Or.inr h)
  have HP4:Hid (IsP ((w3.setCell ⟨ln,q*2,none⟩ (.int .i64 x)).setCell ⟨ln,q*2+1,none⟩ (.int .i64 x)) k.po k.n (updN bef x l) (updN (updN aft x 0) l x) od):=
   (hp3.out.keep (YP _ _ _ _ (Ne.symm n2))).keep (YP _ _ _ _ (Ne.symm n2))
  go_wp2_with fail;go_end0
  exact⟨rfl,HP4.o,HL4.o,HF4.o⟩
 ·have hb0:((f:Int)==0)=false:=by simp;omega
  have HL4:Hid (IsL (w3.setCell ⟨ln,q*2+1,none⟩ (.int .i64 x)) ln m (updN fs q f) (updN ls q x)):=by
   have e:updN fs q f=fs:=by
    funext j
    unfold updN;by_cases hj:j=q
    ·rw[Zg hj,hj,HF.o]
    ·rw[Zj hj]
   rw[e];exact HL3.o.setL q x
  have HF4:Hid (Fr (λj=>j=k.po∨j=ln) w (w3.setCell ⟨ln,q*2+1,none⟩ (.int .i64 x))):=
   (HF3.o.mono (λ_ _ h=>Or.inl h)).trans (Fr.setCell w3 ⟨ln,q*2+1,none⟩ _) (λ_ _ h=>Or.inr h)
  have HP4:Hid (IsP (w3.setCell ⟨ln,q*2+1,none⟩ (.int .i64 x)) k.po k.n (updN bef x l) (updN (updN aft x 0) l x) od):=
   hp3.out.keep (YP _ _ _ _ (Ne.symm n2))
  have H0:=Zc h0;go_wp2_with fail;go_end0
  refine⟨rfl,HP4.o,?_,HF4.o⟩;first
   | exact HL4.o
   | (rw[Zj H0.o];exact HL4.o)
theorem Zdg (bk ln m q x f l a z:Nat)(k:KC)(bef aft fs ls:Nat→Nat)(od:Nat→Ord)(w:World)(hK:IsK w bk k)(hP:IsP w k.po k.n bef aft od)(hL:IsL w ln m fs ls)(hq:q<m)(hx:x<k.n)(hff:fs q=f)(hll:ls q=l)(_hn:k.n≤1000)
  (ha:bef x=a) (hz:aft x=z) (ha1:a<k.n) (hz1:z<k.n) (hax:a≠x) (hzx:z≠x)
  (n1:bk≠k.po) (n2:ln≠k.po) (_n3:bk≠ln):
  Calls prog 168 #[.pointer (some ⟨bk,0,none⟩),.pointer (some ⟨ln,q*2,none⟩),.int .i64 x] w λe w'=>e=.returned (.tuple #[])∧
   IsP w' k.po k.n (updN bef z a) (updN aft a z) od∧IsL w' ln m (updN fs q (if f=x then z else f)) (updN ls q (if l=x then a else l))∧Fr (λj=>j=k.po∨j=ln) w w':=by
 have gK:w.cell? ⟨bk,0,none⟩=some (.slice (some ⟨k.po,0,none⟩) k.n k.n):=hK.cell 0;have gf:w.cell? ⟨ln,q*2,none⟩=some (.int .i64 f):=by rw[←hff];exact hL.cell q 0 hq (by omega)
 have gl:w.cell? ⟨ln,q*2+1,none⟩=some (.int .i64 l):=by rw[←hll];exact hL.cell q 1 hq (by omega)
 have ga:w.cell? ⟨k.po,x*8,none⟩=some (.int .i64 a):=by rw[←ha];exact hP.cell x 0 hx (by omega)
 have gz:w.cell? ⟨k.po,x*8+1,none⟩=some (.int .i64 z):=by rw[←hz];exact hP.cell x 1 hx (by omega)
 have HP:=Zc hP;have HL:=Zc hL;have HK:=Zc hK;have HFF:=Zc (Zd hff hll);have HAZ:=Zc (Zd ha hz);have i1:(x:Int)<(k.n:Int):=by omega
 have i2:(a:Int)<(k.n:Int):=by omega
 have i3:(z:Int)<(k.n:Int):=by omega
 clear hP hL hK hff hll ha hz;go_enter func168,ntmps168;go_wp2_with fail;go_region_held3 (λw'=>w'.cell? ⟨bk,0,none⟩=some (.slice (some ⟨k.po,0,none⟩) k.n k.n)) (first|exact m1|go_keep)
  (first
   | (go_at_call 171;refine(TN k.po (x*8) a w.drew ga).mono ?_;rintro e w' ⟨rfl,hw⟩;subst hw)
   | (go_at_call 69;refine(Vu k.po (x*8) z w.drew gz).mono ?_;rintro e w' ⟨rfl,hw⟩;subst hw)
   | (go_at_call 106;refine(Vj k.po k.n a z bef aft od w.drew ⟨HP.o.blk⟩ ha1).mono ?_;rintro e w1 ⟨rfl,hp1,hf1⟩;have m1:w1.cell? ⟨bk,0,none⟩=some (.slice (some ⟨k.po,0,none⟩) k.n k.n):=hf1.out.cell (w:=w.drew) gK n1))
 have ga1:w1.cell? ⟨k.po,x*8,none⟩=some (.int .i64 a):=by rw[←HAZ.o.1];exact hp1.out.cell x 0 hx (by omega)
 have gz1:w1.cell? ⟨k.po,x*8+1,none⟩=some (.int .i64 z):=by have:=hp1.out.cell x 1 hx (by omega);rw[this];show some (Value.int .i64 (updN aft a z x:Nat))=_;rw[Xj _ _ _ _ (Ne.symm hax),HAZ.o.2]
 have gf1:w1.cell? ⟨ln,q*2,none⟩=some (.int .i64 f):=hf1.out.cell (w:=w.drew) gf n2;have gl1:w1.cell? ⟨ln,q*2+1,none⟩=some (.int .i64 l):=hf1.out.cell (w:=w.drew) gl n2;clear ga gz gf gl gK;go_wp2_with fail;go_region_held3 (λw'=>w'.cell? ⟨bk,0,none⟩=some (.slice (some ⟨k.po,0,none⟩) k.n k.n)) (first|exact m2|go_keep)
  (first
   | (go_at_call 69;refine(Vu k.po (x*8) z w1.drew gz1).mono ?_;rintro e w' ⟨rfl,hw⟩;subst hw)
   | (go_at_call 171;refine(TN k.po (x*8) a w1.drew ga1).mono ?_;rintro e w' ⟨rfl,hw⟩;subst hw)
   | (go_at_call 170;refine(Qd k.po k.n z a _ _ od w1.drew ⟨hp1.out.blk⟩ hz1).mono ?_;rintro e w2 ⟨rfl,hp2,hf2⟩;have m2:w2.cell? ⟨bk,0,none⟩=some (.slice (some ⟨k.po,0,none⟩) k.n k.n):=hf2.out.cell (w:=w1.drew) m1 n1))
 have ga2:w2.cell? ⟨k.po,x*8,none⟩=some (.int .i64 a):=by have:=hp2.out.cell x 0 hx (by omega);rw[Nat.add_zero] at this;rw[this];show some (Value.int .i64 (updN bef z a x:Nat))=_;rw[Xj _ _ _ _ (Ne.symm hzx),HAZ.o.1]
 have gz2:w2.cell? ⟨k.po,x*8+1,none⟩=some (.int .i64 z):=by have:=hp2.out.cell x 1 hx (by omega);rw[this];show some (Value.int .i64 (updN aft a z x:Nat))=_;rw[Xj _ _ _ _ (Ne.symm hax),HAZ.o.2]
 have gf2:w2.cell? ⟨ln,q*2,none⟩=some (.int .i64 f):=hf2.out.cell (w:=w1.drew) gf1 n2;have gl2:w2.cell? ⟨ln,q*2+1,none⟩=some (.int .i64 l):=hf2.out.cell (w:=w1.drew) gl1 n2;clear ga1 gz1 gf1 gl1 m1;have HF2:Hid (Fr (λj=>j=k.po) w w2):=(Fr.drew _ w).trans (hf1.out.trans ((Fr.drew _ w1).trans hf2.out (λ_ _ h=>h)) (λ_ _ h=>h)) (λ_ _ h=>h);have HL2:Hid (IsL w2 ln m fs ls):=HL.o.keep (HF2.o.block ln HL.o.lt n2);have fz:∀i,w2.frozen? ⟨ln,i,none⟩=false:=HL2.o.frozen;have fz0:=fz (q*2);have fz1:=fz (q*2+1);clear fz;have ef:updN fs q f=fs:=by
  funext j
  unfold updN;by_cases hj:j=q
  ·rw[Zg hj,hj,HFF.o.1]
  ·rw[Zj hj]
 have el:updN ls q l=ls:=by
  funext j
  unfold updN;by_cases hj:j=q
  ·rw[Zg hj,hj,HFF.o.2]
  ·rw[Zj hj]
 replace ef:=Zc ef;replace el:=Zc el;by_cases h1:f=x
 ·have b1:((f:Int)==(x:Int))=true:=by simp[h1]
  have ga3:(w2.setCell ⟨ln,q*2,none⟩ (.int .i64 z)).cell? ⟨k.po,x*8,none⟩=some (.int .i64 a):=(Fr.setCell w2 ⟨ln,q*2,none⟩ (.int .i64 z)).cell ga2 (Ne.symm n2);by_cases h2:l=x
  ·have b2:((l:Int)==(x:Int))=true:=by simp[h2]
   have HPf:Hid (IsP ((w2.setCell ⟨ln,q*2,none⟩ (.int .i64 z)).setCell ⟨ln,q*2+1,none⟩ (.int .i64 a)) k.po k.n (updN bef z a) (updN aft a z) od):=hp2.out.keep (((Fr.setCell w2 ⟨ln,q*2,none⟩ (.int .i64 z)).trans (Fr.setCell _ ⟨ln,q*2+1,none⟩ (.int .i64 a)) (λ_ _ h=>h)).block k.po hp2.out.lt (Ne.symm n2));have HLf:Hid (IsL ((w2.setCell ⟨ln,q*2,none⟩ (.int .i64 z)).setCell ⟨ln,q*2+1,none⟩ (.int .i64 a)) ln m (updN fs q z) (updN ls q a)):=by show IsL _ _ _ _ _;exact(HL2.o.setF q z).setL q a
   have HFf:Hid (Fr (λj=>j=k.po∨j=ln) w ((w2.setCell ⟨ln,q*2,none⟩ (.int .i64 z)).setCell ⟨ln,q*2+1,none⟩ (.int .i64 a))):=(HF2.o.mono (λ_ _ h=>Or.inl h)).trans ((Fr.setCell w2 ⟨ln,q*2,none⟩ (.int .i64 z)).trans (Fr.setCell _ ⟨ln,q*2+1,none⟩ (.int .i64 a)) (λ_ _ h=>h)) (λ_ _ h=>Or.inr h);have H1:=Zc h1;have H2:=Zc h2;clear h1 h2;go_wp2_with (first|(go_at_call 69;refine(Vu k.po (x*8) z w2 gz2).mono (Zb ?_))|(go_at_call 171;refine(TN k.po (x*8) a _ ga3).mono (Zb ?_)))
   go_end0
   exact⟨rfl,HPf.o,HLf.o,HFf.o⟩
  ·have b2:((l:Int)==(x:Int))=false:=by simp;omega
   have HPf:Hid (IsP (w2.setCell ⟨ln,q*2,none⟩ (.int .i64 z)) k.po k.n (updN bef z a) (updN aft a z) od):=hp2.out.keep ((Fr.setCell w2 ⟨ln,q*2,none⟩ (.int .i64 z)).block k.po hp2.out.lt (Ne.symm n2));have HLf:Hid (IsL (w2.setCell ⟨ln,q*2,none⟩ (.int .i64 z)) ln m (updN fs q z) (updN ls q l)):=by show IsL _ _ _ _ _;rw[el.out];exact HL2.o.setF q z
   have HFf:Hid (Fr (λj=>j=k.po∨j=ln) w (w2.setCell ⟨ln,q*2,none⟩ (.int .i64 z))):=(HF2.o.mono (λ_ _ h=>Or.inl h)).trans (Fr.setCell w2 ⟨ln,q*2,none⟩ (.int .i64 z)) (λ_ _ h=>Or.inr h);have H1:=Zc h1;have H2:=Zc h2;clear h1 h2;go_wp2_with ((go_at_call 69;refine(Vu k.po (x*8) z w2 gz2).mono (Zb ?_)))
   go_end0
   exact⟨rfl,HPf.o,HLf.o,HFf.o⟩
 ·have b1:((f:Int)==(x:Int))=false:=by simp;omega
  by_cases h2:l=x
  ·have b2:((l:Int)==(x:Int))=true:=by simp[h2]
   have HPf:Hid (IsP (w2.setCell ⟨ln,q*2+1,none⟩ (.int .i64 a)) k.po k.n (updN bef z a) (updN aft a z) od):=hp2.out.keep ((Fr.setCell w2 ⟨ln,q*2+1,none⟩ (.int .i64 a)).block k.po hp2.out.lt (Ne.symm n2));have HLf:Hid (IsL (w2.setCell ⟨ln,q*2+1,none⟩ (.int .i64 a)) ln m (updN fs q f) (updN ls q a)):=by show IsL _ _ _ _ _;rw[ef.out];exact HL2.o.setL q a
   have HFf:Hid (Fr (λj=>j=k.po∨j=ln) w (w2.setCell ⟨ln,q*2+1,none⟩ (.int .i64 a))):=(HF2.o.mono (λ_ _ h=>Or.inl h)).trans (Fr.setCell w2 ⟨ln,q*2+1,none⟩ (.int .i64 a)) (λ_ _ h=>Or.inr h);have H1:=Zc h1;have H2:=Zc h2;clear h1 h2;go_wp2_with ((go_at_call 171;refine(TN k.po (x*8) a _ ga2).mono (Zb ?_)))
   go_end0
   exact⟨rfl,HPf.o,HLf.o,HFf.o⟩
  ·have b2:((l:Int)==(x:Int))=false:=by simp;omega
   have HPf:Hid (IsP w2 k.po k.n (updN bef z a) (updN aft a z) od):=hp2.out.keep ((Fr.refl (λk=>k=ln) w2).block k.po hp2.out.lt (Ne.symm n2));have HLf:Hid (IsL w2 ln m (updN fs q f) (updN ls q l)):=by show IsL _ _ _ _ _;rw[ef.out,el.out];exact HL2.o
   have HFf:Hid (Fr (λj=>j=k.po∨j=ln) w w2):=(HF2.o.mono (λ_ _ h=>Or.inl h)).trans (Fr.refl (λk=>k=ln) w2) (λ_ _ h=>Or.inr h);have H1:=Zc h1;have H2:=Zc h2;clear h1 h2;go_wp2_with fail;go_end0
   exact⟨rfl,HPf.o,HLf.o,HFf.o⟩
end
section
open Go.RowKit
def ordL (a z:Nat)(o:Ord):List Value:=[.int .i64 a,.int .i64 z,.int .u32 o.ref,.int .u32 o.qf,.int .u8 o.qe.toNat,.int .u8 o.qd,.int .u16 o.qc,.int .u16 o.qa]
def ordV (a z:Nat)(o:Ord):Value:=.agg (ordL a z o).toArray
theorem IsP.range (h:IsP w po n bef aft od)(i:Nat)(hi:i<n):w.rangeAt po (i*8) (ordL (bef i) (aft i) (od i)):=by
 intro j v hv
 match j with
 | 0=>simp[ordL] at hv;subst hv;exact h.cell i 0 hi (by omega)
 | 1=>simp[ordL] at hv;subst hv;exact h.cell i 1 hi (by omega)
 | 2=>simp[ordL] at hv;subst hv;exact h.cell i 2 hi (by omega)
 | 3=>simp[ordL] at hv;subst hv;exact h.cell i 3 hi (by omega)
 | 4=>simp[ordL] at hv;subst hv;exact h.cell i 4 hi (by omega)
 | 5=>simp[ordL] at hv;subst hv;exact h.cell i 5 hi (by omega)
 | 6=>simp[ordL] at hv;subst hv;exact h.cell i 6 hi (by omega)
 | 7=>simp[ordL] at hv;subst hv;exact h.cell i 7 hi (by omega)
 | j+8=>simp[ordL] at hv
theorem Zh8 (po t n m i:Nat)(vs:List Value):∀(j:Nat) (f:Nat→Nat→Value) (w:World),j+vs.length≤m→w.heap[po]?=some (.cells (Xv n m f) t)→
  (w.setCells po (i*m+j) vs).heap[po]?=some (.cells (Xv n m (λa b=>if a=i∧j≤b then (vs[b-j]?).getD (f a b) else f a b)) t):=by
 induction vs with
 | nil=>
  intro j f w _ hw;rw[World.setCells,hw]
  congr 3
  funext a b
  simp
 | cons v vs ih=>
  intro j f w hj hw;rw[Zu] at hj;rw[World.setCells,Nat.add_assoc,ih (j+1) _ _ (by omega) (by rw[Zi w po (i*m+j) _ _ _ hw,Vv n m f i j (by omega) v])]
  congr 3
  funext a b
  by_cases e:a=i
  ·subst e;by_cases e2:b=j
   ·subst e2;have:¬b+1≤b:=by omega
    simp[this]
   ·by_cases e3:j+1≤b
    ·have:b-j=(b-(j+1))+1:=by omega
     simp[e2,e3,this,show j≤b by omega]
    ·have:¬j≤b:=by omega
     simp[e2,e3,this]
  ·simp[e]
theorem ordL_get (a z:Nat)(o:Ord)(bef aft:Nat→Nat)(od:Nat→Ord)(i b:Nat)(hb:b<8)(v:Value):((ordL a z o)[b]?).getD v=XQ (updN bef i a) (updN aft i z) (updN od i o) i b:=by
 match b,hb with
 | 0,_=>show Value.int .i64 a=.int .i64 (updN bef i a i:Nat);rw[Xk]
 | 1,_=>show Value.int .i64 z=.int .i64 (updN aft i z i:Nat);rw[Xk]
 | 2,_=>show Value.int .u32 o.ref=.int .u32 (updN od i o i).ref;rw[Xk]
 | 3,_=>show Value.int .u32 o.qf=.int .u32 (updN od i o i).qf;rw[Xk]
 | 4,_=>show Value.int .u8 o.qe.toNat=.int .u8 (updN od i o i).qe.toNat;rw[Xk]
 | 5,_=>show Value.int .u8 o.qd=.int .u8 (updN od i o i).qd;rw[Xk]
 | 6,_=>show Value.int .u16 o.qc=.int .u16 (updN od i o i).qc;rw[Xk]
 | 7,_=>show Value.int .u16 o.qa=.int .u16 (updN od i o i).qa;rw[Xk]
theorem oCell_ne (a z:Nat)(o:Ord)(bef aft:Nat→Nat)(od:Nat→Ord)(i j b:Nat)(h:j≠i):XQ (updN bef i a) (updN aft i z) (updN od i o) j b=XQ bef aft od j b:=by unfold XQ;rw[Xj _ _ _ _ h,Xj _ _ _ _ h,Xj _ _ _ _ h]
theorem IsP.setOrd (h:IsP w po n bef aft od)(i a z:Nat)(o:Ord):IsP (w.setCells po (i*8) (ordL a z o)) po n (updN bef i a) (updN aft i z) (updN od i o):=by
 have e:Xv n 8 (λx y=>if x=i∧0≤y then ((ordL a z o)[y-0]?).getD (XQ bef aft od x y) else XQ bef aft od x y)=Xv n 8 (XQ (updN bef i a) (updN aft i z) (updN od i o)):=by
  unfold Xv
  congr 1
  funext x
  simp only[Zy,and_true,Nat.sub_zero];by_cases e:x.val / 8=i
  ·rw[Zg e,ordL_get a z o bef aft od i _ (by omega),e]
  ·rw[Zj e,oCell_ne _ _ _ _ _ _ _ _ _ e]
 have h1:=Zh8 po 108 n 8 i (ordL a z o) 0 (XQ bef aft od) w (Zh 8) h.blk;rw[e] at h1;exact⟨h1⟩
theorem XA (g:Nat)(vs:List Value):∀(o:Nat) (w:World),Fr (λk=>k=g) w (w.setCells g o vs):=by
 induction vs with
 | nil=>intro o w;exact Fr.refl _ _
 | cons v vs ih=>
  intro o w;rw[World.setCells];exact(Fr.setCell w ⟨g,o,none⟩ v).trans (ih (o+1) _) (λ_ _ h=>h)
theorem set8 (w:World)(po i a z:Nat)(o:Ord):w.setCells po (i*8) (ordL a z o)=((((((((w.setCell ⟨po,i*8,none⟩ (.int .i64 a)).setCell ⟨po,i*8+1,none⟩ (.int .i64 z)).setCell ⟨po,i*8+2,none⟩ (.int .u32 o.ref)).setCell ⟨po,i*8+3,none⟩ (.int .u32 o.qf)).setCell ⟨po,i*8+4,none⟩ (.int .u8 o.qe.toNat)).setCell ⟨po,i*8+5,none⟩ (.int .u8 o.qd)).setCell ⟨po,i*8+6,none⟩ (.int .u16 o.qc)).setCell ⟨po,i*8+7,none⟩ (.int .u16 o.qa)):=rfl
structure SK  where
 bk:Nat
 po:Nat
 pl:Nat
 n:Nat
 S:Nat
 L:Nat
 ln:Nat→Nat
def SK.kc (k:SK)(free taken:Nat):KC:={po:=k.po,n:=k.n,free,taken,qj:=k.L,pl:=k.pl,qk:=k.S}
structure SK.ok (k:SK):Prop where
 bp:k.bk≠k.po
 bt:k.bk≠k.pl
 pt:k.po≠k.pl
 lb:∀j,j<k.S*2→k.ln j≠k.bk
 lp:∀j,j<k.S*2→k.ln j≠k.po
 lt:∀j,j<k.S*2→k.ln j≠k.pl
 inj:∀i j,i<k.S*2→j<k.S*2→k.ln i=k.ln j→i=j
 n:1≤k.n∧k.n≤65
 S:k.S≤8
 L:k.L≤64
def SK.F (k:SK)(j:Nat):Prop:=j=k.bk∨j=k.po∨j=k.pl∨∃i,i<k.S*2∧j=k.ln i
structure IsBk (w:World)(k:SK)(free taken:Nat)(fs ls:Nat→Nat→Nat)(bef aft:Nat→Nat)(od:Nat→Ord):Prop where
 K:IsK w k.bk (k.kc free taken)
 P:IsP w k.po k.n bef aft od
 T:w.heap[k.pl]?=some (.cells (Xv k.S 2 (λs i=>.slice (some ⟨k.ln (s*2+i),0,none⟩) k.L k.L)) 152)
 Ls:∀j,j<k.S*2→IsL w (k.ln j) k.L (fs j) (ls j)
theorem IsBk.lt {k:SK}{fs ls:Nat→Nat→Nat}(h:IsBk w k free taken fs ls bef aft od)(j:Nat)(hj:k.F j):j<w.heap.size:=by
 rcases hj with rfl|rfl|rfl|⟨i,hi,rfl⟩
 ·exact h.K.lt
 ·exact h.P.lt
 ·exact(Ze.1 h.T).1
 ·exact(h.Ls i hi).lt
theorem IsBk.keep {k:SK}{fs ls:Nat→Nat→Nat}(h:IsBk w k free taken fs ls bef aft od)(hk:∀j,k.F j→w'.heap[j]?=w.heap[j]?):IsBk w' k free taken fs ls bef aft od:=
 ⟨⟨(hk _ (Or.inl rfl)).trans h.K.blk⟩,⟨(hk _ (Or.inr (Or.inl rfl))).trans h.P.blk⟩,(hk _ (Or.inr (Or.inr (Or.inl rfl)))).trans h.T,λj hj=>⟨(hk _ (Or.inr (Or.inr (Or.inr ⟨j,hj,rfl⟩)))).trans (h.Ls j hj).blk⟩⟩
theorem IsBk.turnP {k:SK}{fs ls:Nat→Nat→Nat}(ok:k.ok)(h:IsBk w k free taken fs ls bef aft od)(hP:IsP w' k.po k.n bef' aft' od')(hf:Fr (λj=>j=k.po) w w'):IsBk w' k free taken fs ls bef' aft' od':=
 ⟨⟨(hf.block _ h.K.lt ok.bp).trans h.K.blk⟩,hP,(hf.block _ (h.lt _ (Or.inr (Or.inr (Or.inl rfl)))) (Ne.symm ok.pt)).trans h.T,λj hj=>⟨(hf.block _ (h.Ls j hj).lt (ok.lp j hj)).trans (h.Ls j hj).blk⟩⟩
theorem IsBk.turnPK {k:SK}{fs ls:Nat→Nat→Nat}(ok:k.ok)(h:IsBk w k free taken fs ls bef aft od){free' taken':Nat}(hP:IsP w' k.po k.n bef' aft' od')(hK:IsK w' k.bk (k.kc free' taken'))(hf:Fr (λj=>j=k.po∨j=k.bk) w w'):IsBk w' k free' taken' fs ls bef' aft' od':=
 ⟨hK,hP,(hf.block _ (h.lt _ (Or.inr (Or.inr (Or.inl rfl)))) (λe=>e.elim (λe=>ok.pt e.symm) (λe=>ok.bt e.symm))).trans h.T,λj hj=>⟨(hf.block _ (h.Ls j hj).lt (λe=>e.elim (λe=>ok.lp j hj e) (λe=>ok.lb j hj e))).trans (h.Ls j hj).blk⟩⟩
theorem IsBk.turnL {k:SK}{fs ls:Nat→Nat→Nat}(ok:k.ok)(h:IsBk w k free taken fs ls bef aft od)(hP:IsP w' k.po k.n bef' aft' od')(j:Nat)(hj:j<k.S*2){f' l':Nat→Nat}(hL:IsL w' (k.ln j) k.L f' l')(hf:Fr (λi=>i=k.po∨i=k.ln j) w w'):
  IsBk w' k free taken (updN fs j f') (updN ls j l') bef' aft' od':=by
 refine⟨⟨(hf.block _ h.K.lt (λe=>e.elim (λe=>ok.bp e) (λe=>ok.lb j hj e.symm))).trans h.K.blk⟩,hP,(hf.block _ (h.lt _ (Or.inr (Or.inr (Or.inl rfl)))) (λe=>e.elim (λe=>ok.pt e.symm) (λe=>ok.lt j hj e.symm))).trans h.T,λi hi => ?_⟩;by_cases e:i=j
 ·subst e;rw[Xk,Xk];exact hL
 ·rw[Xj _ _ _ _ e,Xj _ _ _ _ e];exact⟨(hf.block _ (h.Ls i hi).lt (λq=>q.elim (λq=>ok.lp i hi q) (λq=>e (ok.inj i j hi hj q)))).trans (h.Ls i hi).blk⟩
structure Bks (w:World)(k:SK)(taken:Nat)(od:Nat→Ord)(ps:Nat→UInt8→Nat→List Nat)(fl:List Nat):Prop where
 ok:k.ok
 ex:∃free fs ls bef aft,IsBk w k free taken fs ls bef aft od∧Lk k.S k.L k.n free fs ls bef aft ps fl
theorem Bks.lt {k:SK}(h:Bks w k taken od ps fl)(j:Nat)(hj:k.F j):j<w.heap.size:=by obtain⟨_,_,_,_,_,h1,_⟩:=h.ex;exact h1.lt j hj
theorem Bks.keep {k:SK}(h:Bks w k taken od ps fl)(hk:∀j,k.F j→w'.heap[j]?=w.heap[j]?):Bks w' k taken od ps fl:=by obtain⟨a,b,c,d,e,h1,h2⟩:=h.ex;exact⟨h.ok,a,b,c,d,e,h1.keep hk,h2⟩
theorem Bks.fr {k:SK}{F:Nat→Prop}(h:Bks w k taken od ps fl)(hf:Fr F w w')(hn:∀j,k.F j→¬F j):Bks w' k taken od ps fl:=
 h.keep (λj hj=>hf.block j (h.lt j hj) (hn j hj))
theorem IsBk.tab {k:SK}{fs ls:Nat→Nat→Nat}(h:IsBk w k free taken fs ls bef aft od)(s:Nat)(d:UInt8)(hs:s<k.S):w.cell? ⟨k.pl,jx s d,none⟩=some (.slice (some ⟨k.ln (jx s d),0,none⟩) k.L k.L):=by unfold jx;rw[Zk w k.pl _ _ _ (0,0) h.T,VI _ _ _ _ _ hs (by split<;>omega)]
end
section
open Go.RowKit
attribute [local go_sem ↓] Go.wp_at_zero Go.wp_at_succ
theorem take_any (bk x z:Nat)(k:KC)(o:Ord)(bef aft:Nat→Nat)(od:Nat→Ord)(w:World)(hK:IsK w bk k)(hP:IsP w k.po k.n bef aft od)(hx:x<k.n)(hfr:k.free=x)(_hn:k.n≤1000)(ht:k.taken≤1000)
  (hz:aft x=z) (n1:bk≠k.po):
  Calls prog 164 #[.pointer (some ⟨bk,0,none⟩),ordV 0 0 o] w λe w'=>e=.returned (.int .i64 x)∧
   IsP w' k.po k.n (updN bef x 0) (updN aft x 0) (updN od x o)∧IsK w' bk {k with free:=z,taken:=k.taken+1}∧Fr (λj=>j=k.po∨j=bk) w w':=by
 have gK:w.cell? ⟨bk,0,none⟩=some (.slice (some ⟨k.po,0,none⟩) k.n k.n):=hK.cell 0;have gF:w.cell? ⟨bk,1,none⟩=some (.int .i64 x):=by rw[←hfr];exact hK.cell 1
 have gT:w.cell? ⟨bk,2,none⟩=some (.int .i64 k.taken):=hK.cell 2;have gz:w.cell? ⟨k.po,x*8+1,none⟩=some (.int .i64 z):=by rw[←hz];exact hP.cell x 1 hx (by omega)
 have f1:=hK.frozen 1;have f2:=hK.frozen 2;have i1:(x:Int)<(k.n:Int):=by omega
 have hbl:=hK.lt;have hpl:=hP.lt;have HP:=Zc hP;have HK:=Zc hK;clear hP hK;unfold ordV ordL;go_enter func164,ntmps164;go_wp2_with fail;generalize hOb:Obj.cells _ 108=Ob;have hKa:IsK (w.alloc Ob) bk k:=⟨by rw[YX,Zj (by omega)];exact HK.o.blk⟩;have hPa:IsP (w.alloc Ob) k.po k.n bef aft od:=HP.o.keep (by rw[YX,Zj (by omega)]);have hbx:(w.alloc Ob).heap[w.heap.size]?=some Ob:=by rw[YX,Zg rfl]
 have hFa:=Fr.alloc (λ_=>False) w Ob;generalize w.alloc Ob=W at hKa hPa hbx hFa ⊢;clear gK gF gT gz f1 f2;have gK:W.cell? ⟨bk,0,none⟩=some (.slice (some ⟨k.po,0,none⟩) k.n k.n):=hKa.cell 0;have gT:W.cell? ⟨bk,2,none⟩=some (.int .i64 k.taken):=hKa.cell 2;have gF:W.cell? ⟨bk,1,none⟩=some (.int .i64 x):=by rw[←hfr];exact hKa.cell 1
 have gz:W.cell? ⟨k.po,x*8+1,none⟩=some (.int .i64 z):=by rw[←hz];exact hPa.cell x 1 hx (by omega)
 have f1:=hKa.frozen 1;have f2:=hKa.frozen 2;refine(Vu k.po (x*8) z W gz).mono (Zb ?_);have HKa:=Zc hKa;have HPa:=Zc hPa;have HFa:=Zc hFa;have bc:∀i v,(#[Value.int .i64 0,.int .i64 0,.int .u32 o.ref,.int .u32 o.qf,.int .u8 o.qe.toNat,.int .u8 o.qd,.int .u16 o.qc,.int .u16 o.qa]:Array Value)[i]?=some v→W.cell? ⟨w.heap.size,i,none⟩=some v:=by intro i v hv;rw[Zk W w.heap.size i _ 108 (0,0) (hbx.trans (by rw[←hOb]))];exact hv
 have q0:=bc 0 _ rfl;have q1:=bc 1 _ rfl;have q2:=bc 2 _ rfl;have q3:=bc 3 _ rfl;have q4:=bc 4 _ rfl;have q5:=bc 5 _ rfl;have q6:=bc 6 _ rfl;have q7:=bc 7 _ rfl;have hbxn:w.heap.size≠bk:=by omega
 have hbxp:w.heap.size≠k.po:=by omega
 clear hKa hPa hFa hbx bc;go_wp2_with fail;have hB1:Fr (λj=>j=bk) W (W.setCell ⟨bk,1,none⟩ (.int .i64 z)):=Fr.setCell W ⟨bk,1,none⟩ _;have hK1:Hid (IsK (W.setCell ⟨bk,1,none⟩ (.int .i64 z)) bk {k with free:=z}):=⟨by rw[Zi W bk 1 _ _ _ HKa.o.blk];rfl⟩;have hP1:Hid (IsP (W.setCell ⟨bk,1,none⟩ (.int .i64 z)) k.po k.n bef aft od):=HPa.o.keep (YP _ _ _ _ (Ne.symm n1));have hF1:Hid (Fr (λj=>j=k.po∨j=bk) w (W.setCell ⟨bk,1,none⟩ (.int .i64 z))):=(HFa.o.mono (λ_ _ h=>h.elim)).trans hB1 (λ_ _ h=>Or.inr h);replace q0:=hB1.cell q0 hbxn;replace q1:=hB1.cell q1 hbxn;replace q2:=hB1.cell q2 hbxn;replace q3:=hB1.cell q3 hbxn;replace q4:=hB1.cell q4 hbxn;replace q5:=hB1.cell q5 hbxn;replace q6:=hB1.cell q6 hbxn;replace q7:=hB1.cell q7 hbxn;clear hB1 gK gT gF gz f1 f2;generalize W.setCell ⟨bk,1,none⟩ (.int .i64 z)=W1 at *;have gK:W1.cell? ⟨bk,0,none⟩=some (.slice (some ⟨k.po,0,none⟩) k.n k.n):=hK1.out.cell 0;have tc:∀i,i<8→W1.cell? ⟨k.po,x*8+i,none⟩=some (XQ bef aft od x i):=λi hi=>hP1.out.cell x i hx hi;have t0:W1.cell? ⟨k.po,x*8,none⟩=some _:=tc 0 (by omega);have t1:=tc 1 (by omega);have t2:=tc 2 (by omega);have t3:=tc 3 (by omega);have t4:=tc 4 (by omega);have t5:=tc 5 (by omega);have t6:=tc 6 (by omega);have t7:=tc 7 (by omega);have fp:∀i,W1.frozen? ⟨k.po,i,none⟩=false:=hP1.out.frozen;have fp0:=fp (x*8);have fp1:=fp (x*8+1);have fp2:=fp (x*8+2);have fp3:=fp (x*8+3);have fp4:=fp (x*8+4);have fp5:=fp (x*8+5);have fp6:=fp (x*8+6);have fp7:=fp (x*8+7);clear fp tc;have n1':¬k.po=bk:=λe=>n1 e.symm;have hbxp':¬k.po=w.heap.size:=λe=>hbxp e.symm;go_region_held3 (λw'=>w'.cell? ⟨bk,0,none⟩=some (.slice (some ⟨k.po,0,none⟩) k.n k.n)∧w'.cell? ⟨w.heap.size,0,none⟩=some (.int .i64 0)∧w'.cell? ⟨w.heap.size,1,none⟩=some (.int .i64 0)∧w'.cell? ⟨w.heap.size,2,none⟩=some (.int .u32 o.ref)∧w'.cell? ⟨w.heap.size,3,none⟩=some (.int .u32 o.qf)∧w'.cell? ⟨w.heap.size,4,none⟩=some (.int .u8 o.qe.toNat)∧w'.cell? ⟨w.heap.size,5,none⟩=some (.int .u8 o.qd)∧w'.cell? ⟨w.heap.size,6,none⟩=some (.int .u16 o.qc)∧w'.cell? ⟨w.heap.size,7,none⟩=some (.int .u16 o.qa)) (go_keep) (fail)
 rename_i hHeld;clear hHeld;have hp2:Hid (IsP ((((((((W1.setCell ⟨k.po,x*8,none⟩ (.int .i64 0)).setCell ⟨k.po,x*8+1,none⟩ (.int .i64 0)).setCell ⟨k.po,x*8+2,none⟩ (.int .u32 o.ref)).setCell ⟨k.po,x*8+3,none⟩ (.int .u32 o.qf)).setCell ⟨k.po,x*8+4,none⟩ (.int .u8 o.qe.toNat)).setCell ⟨k.po,x*8+5,none⟩ (.int .u8 o.qd)).setCell ⟨k.po,x*8+6,none⟩ (.int .u16 o.qc)).setCell ⟨k.po,x*8+7,none⟩ (.int .u16 o.qa)) k.po k.n (updN bef x 0) (updN aft x 0) (updN od x o)):=by have:=hP1.out.setOrd x 0 0 o;rw[set8] at this;exact this
 have hf2:Hid (Fr (λj=>j=k.po) W1 ((((((((W1.setCell ⟨k.po,x*8,none⟩ (.int .i64 0)).setCell ⟨k.po,x*8+1,none⟩ (.int .i64 0)).setCell ⟨k.po,x*8+2,none⟩ (.int .u32 o.ref)).setCell ⟨k.po,x*8+3,none⟩ (.int .u32 o.qf)).setCell ⟨k.po,x*8+4,none⟩ (.int .u8 o.qe.toNat)).setCell ⟨k.po,x*8+5,none⟩ (.int .u8 o.qd)).setCell ⟨k.po,x*8+6,none⟩ (.int .u16 o.qc)).setCell ⟨k.po,x*8+7,none⟩ (.int .u16 o.qa))):=by have:=XA k.po (ordL 0 0 o) (x*8) W1;rw[set8] at this;exact this
 generalize ((((((((W1.setCell ⟨k.po,x*8,none⟩ (.int .i64 0)).setCell ⟨k.po,x*8+1,none⟩ (.int .i64 0)).setCell ⟨k.po,x*8+2,none⟩ (.int .u32 o.ref)).setCell ⟨k.po,x*8+3,none⟩ (.int .u32 o.qf)).setCell ⟨k.po,x*8+4,none⟩ (.int .u8 o.qe.toNat)).setCell ⟨k.po,x*8+5,none⟩ (.int .u8 o.qd)).setCell ⟨k.po,x*8+6,none⟩ (.int .u16 o.qc)).setCell ⟨k.po,x*8+7,none⟩ (.int .u16 o.qa))=w2 at hp2 hf2 ⊢;have hK2:IsK w2 bk {k with free:=z}:=⟨(hf2.out.block bk hK1.out.lt n1).trans hK1.out.blk⟩;have gT:w2.cell? ⟨bk,2,none⟩=some (.int .i64 k.taken):=hK2.cell 2;have gF:w2.cell? ⟨bk,2,none⟩=some (.int .i64 k.taken):=hK2.cell 2;have f2:=hK2.frozen 2;have w1:IntKind.i64.wrap ((k.taken:Int)+1)=(k.taken:Int)+1:=by rw[Zq];omega
 have HK2:=Zc hK2;clear hK2;go_wp2_with fail;go_ret;refine⟨rfl,hp2.out.keep (YP _ _ _ _ (Ne.symm n1)),⟨?_⟩,?_⟩
 ·show(w2.setCell ⟨bk,2,none⟩ (.int .i64 ((k.taken:Int)+1))).heap[bk]?=_;rw[Zi _ bk 2 _ _ _ HK2.o.blk];rfl
 ·exact(hF1.out.trans hf2.out (λ_ _ h=>Or.inl h)).trans ((Fr.setCell w2 ⟨bk,2,none⟩ _).trans (Fr.drew (λ_=>False) _) (λ_ _ h=>h.elim)) (λ_ _ h=>Or.inr h)
theorem Zkv (bk x:Nat)(k:KC)(bef aft:Nat→Nat)(od:Nat→Ord)(w:World)(hK:IsK w bk k)(hP:IsP w k.po k.n bef aft od)(hx:x<k.n)(_hn:k.n≤1000):
  Calls prog 116 #[.pointer (some ⟨bk,0,none⟩),.int .i64 x] w λe w'=>e=.returned (ordV (bef x) (aft x) (od x))∧Hid (Fr (λ_=>False) w w'):=by
 have gK:w.cell? ⟨bk,0,none⟩=some (.slice (some ⟨k.po,0,none⟩) k.n k.n):=hK.cell 0;have hbl:=hK.lt;have hpl:=hP.lt;have t0:w.cell? ⟨k.po,x*8,none⟩=some (.int .i64 (bef x)):=hP.cell x 0 hx (by omega);have t1:w.cell? ⟨k.po,x*8+1,none⟩=some (.int .i64 (aft x)):=hP.cell x 1 hx (by omega);have t2:w.cell? ⟨k.po,x*8+2,none⟩=some (.int .u32 (od x).ref):=hP.cell x 2 hx (by omega);have t3:w.cell? ⟨k.po,x*8+3,none⟩=some (.int .u32 (od x).qf):=hP.cell x 3 hx (by omega);have t4:w.cell? ⟨k.po,x*8+4,none⟩=some (.int .u8 (od x).qe.toNat):=hP.cell x 4 hx (by omega);have t5:w.cell? ⟨k.po,x*8+5,none⟩=some (.int .u8 (od x).qd):=hP.cell x 5 hx (by omega);have t6:w.cell? ⟨k.po,x*8+6,none⟩=some (.int .u16 (od x).qc):=hP.cell x 6 hx (by omega);have t7:w.cell? ⟨k.po,x*8+7,none⟩=some (.int .u16 (od x).qa):=hP.cell x 7 hx (by omega);have i1:(x:Int)<(k.n:Int):=by omega
 clear hK hP;unfold ordV ordL;generalize bef x=bx at *;generalize aft x=ax at *;generalize od x=o at *;go_enter func116,ntmps116;go_wp2_with fail;refine ZC (v:=.agg #[.int .i64 bx,.int .i64 ax,.int .u32 o.ref,.int .u32 o.qf,.int .u8 o.qe.toNat,.int .u8 o.qd,.int .u16 o.qc,.int .u16 o.qa]) (by simp[results,results116,go_sem]) rfl ⟨rfl,?_⟩;exact Fr.alloc _ _ _
theorem Ts (k:SK)(ok:k.ok)(s p free taken:Nat)(d:UInt8)(fs ls:Nat→Nat→Nat)(bef aft:Nat→Nat)(od:Nat→Ord)(w:World)(h:IsBk w k free taken fs ls bef aft od)(hv:VV k.S k.L s d p):
  Calls prog 67 #[.pointer (some ⟨k.bk,0,none⟩),.int .i64 s,.int .u8 d.toNat,.int .i64 p] w λe w'=>e=.returned (.pointer (some ⟨k.ln (jx s d),(p-1)*2,none⟩))∧w'=w:=by
 obtain⟨h1,h2,h3,h4⟩:=hv;have:=ok.L;have ht:=h.tab s d h1;rcases h2 with rfl|rfl
 ·exact line_buy k.bk (k.kc free taken) s p _ w h.K h1 h3 h4 (show k.L≤1000 by omega) ht
 ·exact Zkq k.bk (k.kc free taken) s p _ w h.K h1 h3 h4 (show k.L≤1000 by omega) ht
theorem Ti (k:SK)(ok:k.ok)(a z free taken:Nat)(o:Ord)(fs ls:Nat→Nat→Nat)(bef aft:Nat→Nat)(od:Nat→Ord)(w:World)(h:IsBk w k free taken fs ls bef aft od)(hv:VV k.S k.L o.qd o.qe o.qc):
  Calls prog 166 #[.pointer (some ⟨k.bk,0,none⟩),ordV a z o] w λe w'=>e=.returned (.pointer (some ⟨k.ln (jx o.qd o.qe),(o.qc-1)*2,none⟩))∧Hid (Fr (λ_=>False) w w'):=by
 have hsz:∀j,k.F j→j<w.heap.size:=h.lt;have H:=Zc h;have HV:=Zc hv;have b1:(o.qd:Int)<256:=by have:=ok.S;have:=hv.1;omega
 have b2:(o.qc:Int)<65536:=by have:=ok.L;have:=hv.2.2.2;omega
 have w1:IntKind.i64.wrap (o.qd:Int)=(o.qd:Int):=by rw[Zq];omega
 have w2:IntKind.i64.wrap (o.qc:Int)=(o.qc:Int):=by rw[Zq];omega
 clear h hv;unfold ordV ordL;go_enter func166,ntmps166;go_wp2_with fail;generalize Obj.cells _ 108=Ob;refine(Ts k ok o.qd o.qc free taken o.qe fs ls bef aft od (w.alloc Ob) (H.o.keep (λj hj=>by rw[YX,Zj (by have:=hsz j hj;omega)])) HV.o).mono (Zb ?_);go_wp2_with fail;go_ret;exact⟨rfl,Fr.alloc _ _ _⟩
def Xr :Ord:={ref:=0,qf:=0,qe:=0,qd:=0,qc:=0,qa:=0}
theorem Zeu (bk x f tk:Nat)(k:KC)(bef aft:Nat→Nat)(od:Nat→Ord)(w:World)(hK:IsK w bk k)(hP:IsP w k.po k.n bef aft od)(hx:x<k.n)(_hn:k.n≤1000)(ht:k.taken≤1000)(ht1:tk+1=k.taken)(hf:k.free=f)(n1:bk≠k.po):
  Calls prog 169 #[.pointer (some ⟨bk,0,none⟩),.int .i64 x] w λe w'=>e=.returned (.tuple #[])∧
   IsP w' k.po k.n (updN bef x 0) (updN (updN aft x 0) x f) (updN od x Xr)∧IsK w' bk {k with free:=x,taken:=tk}∧Fr (λj=>j=k.po∨j=bk) w w':=by
 have gK:w.cell? ⟨bk,0,none⟩=some (.slice (some ⟨k.po,0,none⟩) k.n k.n):=hK.cell 0;have gF:w.cell? ⟨bk,1,none⟩=some (.int .i64 f):=by rw[←hf];exact hK.cell 1
 have i1:(x:Int)<(k.n:Int):=by omega
 have hbl:=hK.lt;have hpl:=hP.lt;have tc:∀i,i<8→w.cell? ⟨k.po,x*8+i,none⟩=some (XQ bef aft od x i):=λi hi=>hP.cell x i hx hi;have t0:w.cell? ⟨k.po,x*8,none⟩=some _:=tc 0 (by omega);have t1:=tc 1 (by omega);have t2:=tc 2 (by omega);have t3:=tc 3 (by omega);have t4:=tc 4 (by omega);have t5:=tc 5 (by omega);have t6:=tc 6 (by omega);have t7:=tc 7 (by omega);have fp:∀i,w.frozen? ⟨k.po,i,none⟩=false:=hP.frozen;have fp0:=fp (x*8);have fp1:=fp (x*8+1);have fp2:=fp (x*8+2);have fp3:=fp (x*8+3);have fp4:=fp (x*8+4);have fp5:=fp (x*8+5);have fp6:=fp (x*8+6);have fp7:=fp (x*8+7);clear fp tc;have HP:=Zc hP;have HK:=Zc hK;clear hP hK;go_enter func169,ntmps169;go_wp2_with fail;have hp2:Hid (IsP ((((((((w.setCell ⟨k.po,x*8,none⟩ (.int .i64 0)).setCell ⟨k.po,x*8+1,none⟩ (.int .i64 0)).setCell ⟨k.po,x*8+2,none⟩ (.int .u32 0)).setCell ⟨k.po,x*8+3,none⟩ (.int .u32 0)).setCell ⟨k.po,x*8+4,none⟩ (.int .u8 0)).setCell ⟨k.po,x*8+5,none⟩ (.int .u8 0)).setCell ⟨k.po,x*8+6,none⟩ (.int .u16 0)).setCell ⟨k.po,x*8+7,none⟩ (.int .u16 0)) k.po k.n (updN bef x 0) (updN aft x 0) (updN od x Xr)):=by have:=HP.o.setOrd x 0 0 Xr;rw[set8] at this;exact this
 have hf2:Hid (Fr (λj=>j=k.po) w ((((((((w.setCell ⟨k.po,x*8,none⟩ (.int .i64 0)).setCell ⟨k.po,x*8+1,none⟩ (.int .i64 0)).setCell ⟨k.po,x*8+2,none⟩ (.int .u32 0)).setCell ⟨k.po,x*8+3,none⟩ (.int .u32 0)).setCell ⟨k.po,x*8+4,none⟩ (.int .u8 0)).setCell ⟨k.po,x*8+5,none⟩ (.int .u8 0)).setCell ⟨k.po,x*8+6,none⟩ (.int .u16 0)).setCell ⟨k.po,x*8+7,none⟩ (.int .u16 0))):=by have:=XA k.po (ordL 0 0 Xr) (x*8) w;rw[set8] at this;exact this
 have hk2:Hid (IsK ((((((((w.setCell ⟨k.po,x*8,none⟩ (.int .i64 0)).setCell ⟨k.po,x*8+1,none⟩ (.int .i64 0)).setCell ⟨k.po,x*8+2,none⟩ (.int .u32 0)).setCell ⟨k.po,x*8+3,none⟩ (.int .u32 0)).setCell ⟨k.po,x*8+4,none⟩ (.int .u8 0)).setCell ⟨k.po,x*8+5,none⟩ (.int .u8 0)).setCell ⟨k.po,x*8+6,none⟩ (.int .u16 0)).setCell ⟨k.po,x*8+7,none⟩ (.int .u16 0)) bk k):=⟨(hf2.out.block bk HK.o.lt n1).trans HK.o.blk⟩;generalize ((((((((w.setCell ⟨k.po,x*8,none⟩ (.int .i64 0)).setCell ⟨k.po,x*8+1,none⟩ (.int .i64 0)).setCell ⟨k.po,x*8+2,none⟩ (.int .u32 0)).setCell ⟨k.po,x*8+3,none⟩ (.int .u32 0)).setCell ⟨k.po,x*8+4,none⟩ (.int .u8 0)).setCell ⟨k.po,x*8+5,none⟩ (.int .u8 0)).setCell ⟨k.po,x*8+6,none⟩ (.int .u16 0)).setCell ⟨k.po,x*8+7,none⟩ (.int .u16 0))=w2 at hp2 hf2 hk2 ⊢;clear gK gF t0 t1 t2 t3 t4 t5 t6 t7 fp0 fp1 fp2 fp3 fp4 fp5 fp6 fp7;have gK:w2.cell? ⟨bk,0,none⟩=some (.slice (some ⟨k.po,0,none⟩) k.n k.n):=hk2.out.cell 0;have gF:w2.cell? ⟨bk,1,none⟩=some (.int .i64 f):=by rw[←hf];exact hk2.out.cell 1
 go_region_held3 (λw'=>w'.cell? ⟨bk,0,none⟩=some (.slice (some ⟨k.po,0,none⟩) k.n k.n)∧w'.cell? ⟨bk,1,none⟩=some (.int .i64 f)) (first|exact⟨m1,m2⟩|go_keep)
  ((go_at_call 106;refine(Vj k.po k.n x f _ _ _ w2.drew ⟨hp2.out.blk⟩ hx).mono ?_;rintro e w3 ⟨rfl,hp3,hf3⟩;have m1:=hf3.out.cell (w:=w2.drew) gK n1;have m2:=hf3.out.cell (w:=w2.drew) gF n1))
 have hK3:IsK w3 bk k:=⟨(hf3.out.block bk hk2.out.lt n1).trans hk2.out.blk⟩;clear gK gF m1 m2;have gF:w3.cell? ⟨bk,1,none⟩=some (.int .i64 f):=by rw[←hf];exact hK3.cell 1
 have gT:w3.cell? ⟨bk,2,none⟩=some (.int .i64 k.taken):=hK3.cell 2;have f1:=hK3.frozen 1;have f2:=hK3.frozen 2;have w1:IntKind.i64.wrap ((k.taken:Int)-1)=(k.taken:Int)-1:=by rw[Zq];omega
 have HK3:=Zc hK3;have gT':(w3.setCell ⟨bk,1,none⟩ (.int .i64 x)).cell? ⟨bk,2,none⟩=some (.int .i64 k.taken):=by rw[World.cell?_setCell_other _ _ _ _ (by simp)];exact gT
 clear hK3;go_wp2_with fail;go_end0
 have e1:(k.taken:Int)-1=(tk:Int):=by omega
 rw[e1];have hfr:Fr (λj=>j=bk) w3 ((w3.setCell ⟨bk,1,none⟩ (.int .i64 x)).setCell ⟨bk,2,none⟩ (.int .i64 tk)):=(Fr.setCell w3 ⟨bk,1,none⟩ _).trans (Fr.setCell _ ⟨bk,2,none⟩ _) (λ_ _ h=>h);refine⟨rfl,hp3.out.keep (hfr.block k.po hp3.out.lt (Ne.symm n1)),⟨?_⟩,?_⟩
 ·rw[Zi _ bk 2 _ _ _ (Zi w3 bk 1 _ _ _ HK3.o.blk)];rfl
 ·exact(hf2.out.mono (λ_ _ h=>Or.inl h)).trans (((Fr.drew (λ_=>False) w2).mono (λ_ _ h=>h.elim)).trans ((hf3.out.mono (λ_ _ h=>Or.inl h)).trans hfr (λ_ _ h=>Or.inr h)) (λ_ _ h=>h)) (λ_ _ h=>h)
end
end Go.Proofs.YtphkchjejbffeaaGreat
