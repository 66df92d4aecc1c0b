/- JB, JC, JD, JE, JF -/
import Derived.Test.YtphkchjejbffeaaGreatK07
set_option maxHeartbeats 16000000
set_option maxRecDepth 100000
namespace Go.Proofs.YtphkchjejbffeaaGreat
open Tryz
open Go.RowKit
variable {a g z:Nat}{o:Ord}{w:World}
section
open Go.RowKit
attribute [local go_sem ↓] Go.wp_at_zero Go.wp_at_succ
structure Box (w:World)(g a z:Nat)(o:Ord):Prop where
 c0:w.cell? ⟨g,0,none⟩=some (.int .i64 a)
 c1:w.cell? ⟨g,1,none⟩=some (.int .i64 z)
 c2:w.cell? ⟨g,2,none⟩=some (.int .u32 o.ref)
 c3:w.cell? ⟨g,3,none⟩=some (.int .u32 o.qf)
 c4:w.cell? ⟨g,4,none⟩=some (.int .u8 o.qe.toNat)
 c5:w.cell? ⟨g,5,none⟩=some (.int .u8 o.qd)
 c6:w.cell? ⟨g,6,none⟩=some (.int .u16 o.qc)
 c7:w.cell? ⟨g,7,none⟩=some (.int .u16 o.qa)
theorem Box.fr {w':World}{F:Nat→Prop}(h:Box w g a z o)(hf:Fr F w w')(hn:¬F g):Box w' g a z o:=
 ⟨hf.cell h.c0 hn,hf.cell h.c1 hn,hf.cell h.c2 hn,hf.cell h.c3 hn,hf.cell h.c4 hn,hf.cell h.c5 hn,hf.cell h.c6 hn,hf.cell h.c7 hn⟩
theorem Box.all (h:Box w g a z o):w.cell? ⟨g,0,none⟩=some (.int .i64 a)∧w.cell? ⟨g,1,none⟩=some (.int .i64 z)∧w.cell? ⟨g,2,none⟩=some (.int .u32 o.ref)∧w.cell? ⟨g,3,none⟩=some (.int .u32 o.qf)∧w.cell? ⟨g,4,none⟩=some (.int .u8 o.qe.toNat)∧w.cell? ⟨g,5,none⟩=some (.int .u8 o.qd)∧w.cell? ⟨g,6,none⟩=some (.int .u16 o.qc)∧w.cell? ⟨g,7,none⟩=some (.int .u16 o.qa):=⟨h.c0,h.c1,h.c2,h.c3,h.c4,h.c5,h.c6,h.c7⟩
theorem Box.of {W:World}{t:Nat}(h:W.heap[g]?=some (.cells (ordL a z o).toArray t)):Box W g a z o:=
 ⟨by rw[Zk W g 0 _ t (0,0) h];rfl,by rw[Zk W g 1 _ t (0,0) h];rfl,by rw[Zk W g 2 _ t (0,0) h];rfl,by rw[Zk W g 3 _ t (0,0) h];rfl,by rw[Zk W g 4 _ t (0,0) h];rfl,by rw[Zk W g 5 _ t (0,0) h];rfl,by rw[Zk W g 6 _ t (0,0) h];rfl,by rw[Zk W g 7 _ t (0,0) h];rfl⟩
theorem rest_mem (k:SK)(ok:k.ok)(x z free taken:Nat)(o:Ord)(fs ls:Nat→Nat→Nat)(bef aft:Nat→Nat)(od:Nat→Ord)(w:World)(h:IsBk w k free taken fs ls bef aft od)(hv:VV k.S k.L o.qd o.qe o.qc)(hfx:free=x)(hx0:x≠0)(hx:x<k.n)(ht:taken≤100)(hz:aft x=z)(hl:ls (jx o.qd o.qe) (o.qc-1)<k.n)(ff:Nat)(hff:(if fs (jx o.qd o.qe) (o.qc-1)=0 then x else fs (jx o.qd o.qe) (o.qc-1))=ff):
  Calls prog 149 #[.pointer (some ⟨k.bk,0,none⟩),ordV 0 0 o] w λe w'=>e=.returned (.int .i64 x)∧
   IsBk w' k z (taken+1) (upd2 fs (jx o.qd o.qe) (o.qc-1) ff) (upd2 ls (jx o.qd o.qe) (o.qc-1) x)
    (updN (updN bef x 0) x (ls (jx o.qd o.qe) (o.qc-1))) (updN (updN (updN aft x 0) x 0) (ls (jx o.qd o.qe) (o.qc-1)) x) (updN od x o)∧Fr k.F w w':=by
 have hsz:∀j,k.F j→j<w.heap.size:=h.lt;have hbl:=hsz k.bk (Or.inl rfl);have hpl:=hsz k.po (Or.inr (Or.inl rfl));have H:=Zc h;have HFF:=Zc hff;clear hff;have HV:=Zc hv;have b0:((x:Int)==0)=false:=by simp;omega
 have hj:=Zcv o.qe hv.1;have hq:o.qc-1<k.L:=by have:=hv.2.2;omega
 have okn:=ok.n;clear h hv;unfold ordV ordL;go_enter func149,ntmps149;go_wp2_with fail;generalize hOb:Obj.cells _ 108=Ob;have hB0:IsBk (w.alloc Ob) k free taken fs ls bef aft od:=H.o.keep (λj hj=>by rw[YX,Zj (by have:=hsz j hj;omega)]);have hbx:Box (w.alloc Ob) w.heap.size 0 0 o:=Box.of (t:=108) (by rw[YX,Zg rfl,←hOb];rfl);have hF0:=Fr.alloc (λ_=>False) w Ob;clear hOb;generalize w.alloc Ob=W at hB0 hbx hF0 ⊢;have HB0:=Zc hB0;have HBX:=Zc hbx;have HF0:=Zc hF0;clear hB0 hbx hF0;refine(Zgv k.bk (k.kc free taken) W HB0.o.K).mono (Zb ?_);rw[show((k.kc free taken).free:Int)=(x:Int) by rw[←hfx];rfl];have q0:=HBX.o.c0;have q1:=HBX.o.c1;have q2:=HBX.o.c2;have q3:=HBX.o.c3;have q4:=HBX.o.c4;have q5:=HBX.o.c5;have q6:=HBX.o.c6;have q7:=HBX.o.c7;go_wp2_with fail;go_region_held3 (λw'=>w'.cell? ⟨w.heap.size,0,none⟩=some (.int .i64 0)∧w'.cell? ⟨w.heap.size,1,none⟩=some (.int .i64 0)∧w'.cell? ⟨w.heap.size,2,none⟩=some (.int .u32 o.ref)∧w'.cell? ⟨w.heap.size,3,none⟩=some (.int .u32 o.qf)∧w'.cell? ⟨w.heap.size,4,none⟩=some (.int .u8 o.qe.toNat)∧w'.cell? ⟨w.heap.size,5,none⟩=some (.int .u8 o.qd)∧w'.cell? ⟨w.heap.size,6,none⟩=some (.int .u16 o.qc)∧w'.cell? ⟨w.heap.size,7,none⟩=some (.int .u16 o.qa)) (first|exact m1|go_keep)
  ((go_at_call 164;refine(take_any k.bk x z (k.kc free taken) o bef aft od W.drew ⟨HB0.o.K.blk⟩ ⟨HB0.o.P.blk⟩ hx hfx (show k.n≤1000 by omega) (show taken≤1000 by omega) hz ok.bp).mono ?_;rintro e w1 ⟨rfl,hp1,hk1,hf1⟩;have m1:=(Box.fr (w:=W.drew) ⟨q0,q1,q2,q3,q4,q5,q6,q7⟩ hf1 (λe=>e.elim (λe=>by have e:w.heap.size=k.po:=e;omega) (λe=>by omega))).all))
 have HF1:Hid (Fr (λj=>j=k.po∨j=k.bk) W w1):=(Fr.drew _ W).trans hf1 (λ_ _ h=>h);have HB1:Hid (IsBk w1 k z (taken+1) fs ls (updN bef x 0) (updN aft x 0) (updN od x o)):=HB0.o.turnPK ok hp1 hk1 HF1.o;have hszW:w.heap.size<W.heap.size:=ZU W _ q0;clear hp1 hk1 hf1 q0 q1 q2 q3 q4 q5 q6 q7;have hsz1:∀j,k.F j→j<w1.heap.size:=HB1.o.lt;obtain⟨q0,q1,q2,q3,q4,q5,q6,q7⟩:=m1;have HX1:Hid (Box w1 w.heap.size 0 0 o):=⟨q0,q1,q2,q3,q4,q5,q6,q7⟩;have hgl:w.heap.size≠k.ln (jx o.qd o.qe):=by have:=hsz _ (Or.inr (Or.inr (Or.inr ⟨_,hj,rfl⟩)));omega
 go_wp2_with fail;go_region_held3 (λw'=>w'.cell? ⟨w.heap.size,0,none⟩=some (.int .i64 0)∧w'.cell? ⟨w.heap.size,1,none⟩=some (.int .i64 0)∧w'.cell? ⟨w.heap.size,2,none⟩=some (.int .u32 o.ref)∧w'.cell? ⟨w.heap.size,3,none⟩=some (.int .u32 o.qf)∧w'.cell? ⟨w.heap.size,4,none⟩=some (.int .u8 o.qe.toNat)∧w'.cell? ⟨w.heap.size,5,none⟩=some (.int .u8 o.qd)∧w'.cell? ⟨w.heap.size,6,none⟩=some (.int .u16 o.qc)∧w'.cell? ⟨w.heap.size,7,none⟩=some (.int .u16 o.qa)) (first|exact m3|exact m2|go_keep)
  (first
   | (go_at_call 166;refine(Ti k ok 0 0 z (taken+1) o fs ls _ _ _ w1.drew (HB1.o.keep (λ_ _=>rfl)) HV.o).mono ?_;rintro e w2 ⟨rfl,hf2⟩;have m2:=(Box.fr (w:=w1.drew) ⟨q0,q1,q2,q3,q4,q5,q6,q7⟩ hf2.out (λe=>e)).all;have hB2:Hid (IsBk w2 k z (taken+1) fs ls (updN bef x 0) (updN aft x 0) (updN od x o)):=HB1.o.keep (λj hj=>hf2.out.block j (hsz1 j hj) (λe=>e)))
   | (go_at_call 165;refine(Zhh k.bk (k.ln (jx o.qd o.qe)) k.L (o.qc-1) x (fs (jx o.qd o.qe) (o.qc-1)) (ls (jx o.qd o.qe) (o.qc-1)) (k.kc z (taken+1)) _ _ (fs (jx o.qd o.qe)) (ls (jx o.qd o.qe)) _ w2 hB2.out.K hB2.out.P (hB2.out.Ls _ hj) hq hx hl rfl rfl (show k.n≤1000 by omega) ok.bp (ok.lp _ hj) (Ne.symm (ok.lb _ hj))).mono ?_;rintro e w3 ⟨rfl,hp3,hl3,hf3⟩;have m3:=((Box.fr (w:=w1.drew) ⟨q0,q1,q2,q3,q4,q5,q6,q7⟩ hf2.out (λe=>e)).fr hf3 (λe=>e.elim (λe=>by have e:w.heap.size=k.po:=e;omega) hgl)).all))
 have HB3:Hid (IsBk w3 k z (taken+1) (upd2 fs (jx o.qd o.qe) (o.qc-1) ff) (upd2 ls (jx o.qd o.qe) (o.qc-1) x) (updN (updN bef x 0) x (ls (jx o.qd o.qe) (o.qc-1))) (updN (updN (updN aft x 0) x 0) (ls (jx o.qd o.qe) (o.qc-1)) x) (updN od x o)):=by rw[HFF.o] at hl3;exact hB2.out.turnL ok hp3 _ hj hl3 hf3
 have HF3:Hid (Fr k.F w w3):=(HF0.o.mono (λ_ _ h=>h.elim)).trans ((HF1.o.mono (λ_ _ h=>h.elim (λh=>Or.inr (Or.inl h)) (λh=>Or.inl h))).trans (((Fr.drew (λ_=>False) w1).mono (λ_ _ h=>h.elim)).trans ((hf2.out.mono (λ_ _ h=>h.elim)).trans (hf3.mono (G:=k.F) (λ_ _ h=>h.elim (λh=>Or.inr (Or.inl h)) (λh=>Or.inr (Or.inr (Or.inr ⟨_,hj,h⟩))))) (λ_ _ h=>h)) (λ_ _ h=>h)) (λ_ _ h=>h)) (λ_ _ h=>h);clear hp3 hl3 hf3;go_wp2_with fail;go_ret;exact⟨rfl,HB3.o,HF3.o⟩
theorem rest_any (k:SK)(w:World)(taken x:Nat)(o:Ord)(od:Nat→Ord)(ps:Nat→UInt8→Nat→List Nat)(fl:List Nat)(h:Bks w k taken od ps (x::fl))(hv:VV k.S k.L o.qd o.qe o.qc)(ht:taken≤100):
  Calls prog 149 #[.pointer (some ⟨k.bk,0,none⟩),ordV 0 0 o] w λe w'=>e=.returned (.int .i64 x)∧
   Bks w' k (taken+1) (updN od x o) (updQ ps o.qd o.qe o.qc (ps o.qd o.qe o.qc++[x])) fl∧Fr k.F w w':=by
 obtain⟨free,fs,ls,bef,aft,h1,h2⟩:=h.ex;obtain⟨t1,t2,t3,t4,t5⟩:=h2.take;have hl:ls (jx o.qd o.qe) (o.qc-1)<k.n:=by
  rw[(h2.line _ _ _ hv).last];rcases Vk (ps o.qd o.qe o.qc) 0 with e|e
  ·rw[e];have:=h.ok.n;omega
  ·exact h2.lt _ _ _ hv _ e
 refine(rest_mem k h.ok x (aft x) free taken o fs ls bef aft od w h1 hv t3 t4 t5 ht rfl hl _ rfl).mono ?_;rintro e w' ⟨rfl,hb,hf⟩;refine⟨rfl,⟨h.ok,_,_,_,_,_,hb,?_⟩,hf⟩;exact(t1.setx t2 0 0).join hv t4 t5 t2
theorem Ql {α:Type}(g:Nat→α)(i:Nat)(a b:α):updN (updN g i a) i b=updN g i b:=by
 funext j
 unfold updN;by_cases e:j=i<;>simp[e]
theorem IsP.setShares {po n:Nat}{bef aft:Nat→Nat}{od:Nat→Ord}(h:IsP w po n bef aft od)(i v:Nat):IsP (w.setCell ⟨po,i*8+7,none⟩ (.int .u16 v)) po n bef aft (updN od i {od i with qa:=v}):=by
 have e:Xv n 8 (λa b=>if a=i∧b=7 then .int .u16 v else XQ bef aft od a b)=Xv n 8 (XQ bef aft (updN od i {od i with qa:=v})):=by
  unfold Xv
  congr 1
  funext x
  have hx:x.val%8<8:=by omega
  generalize x.val%8=j at hx;generalize x.val / 8=y;by_cases e:y=i
  ·subst e
   match j,hx with
   | 0,_=>simp[XQ]
   | 1,_=>simp[XQ]
   | 2,_=>simp[XQ,updN]
   | 3,_=>simp[XQ,updN]
   | 4,_=>simp[XQ,updN]
   | 5,_=>simp[XQ,updN]
   | 6,_=>simp[XQ,updN]
   | 7,_=>simp[XQ,updN]
  ·simp only[e,false_and,if_false];unfold XQ;rw[Xj _ _ _ _ e]
 refine⟨?_⟩;rw[Zi w po (i*8+7) _ _ _ h.blk,Vv n 8 _ i 7 (by omega),e]
theorem Zfx (k:SK)(ok:k.ok)(x m v free taken:Nat)(fs ls:Nat→Nat→Nat)(bef aft:Nat→Nat)(od:Nat→Ord)(w:World)(h:IsBk w k free taken fs ls bef aft od)(hx:x<k.n)(hm:(od x).qa=m+v)(hv:v≠0)(hlt:m+v<65536):
  Calls prog 157 #[.pointer (some ⟨k.bk,0,none⟩),.int .i64 x,.int .u16 m] w λe w'=>e=.returned (.int .u16 v)∧
   IsBk w' k free taken fs ls bef aft (updN od x {od x with qa:=v})∧Fr k.F w w':=by
 have gK:w.cell? ⟨k.bk,0,none⟩=some (.slice (some ⟨k.po,0,none⟩) k.n k.n):=h.K.cell 0;have g7:w.cell? ⟨k.po,x*8+7,none⟩=some (.int .u16 ((m+v:Nat):Int)):=by rw[←hm];exact h.P.cell x 7 hx (by omega)
 have f7:=h.P.frozen (x*8+7);have i1:(x:Int)<(k.n:Int):=by omega
 have HP:Hid (IsP (w.setCell ⟨k.po,x*8+7,none⟩ (.int .u16 v)) k.po k.n bef aft (updN od x {od x with qa:=v})):=h.P.setShares x v;have HF:Hid (Fr (λj=>j=k.po) w (w.setCell ⟨k.po,x*8+7,none⟩ (.int .u16 v))):=Fr.setCell w ⟨k.po,x*8+7,none⟩ _;have H:=Zc h;have b0:((v:Int)==0)=false:=by simp;omega
 obtain⟨y,hy⟩:∃y:Int,y=((m+v:Nat):Int):=⟨_,rfl⟩;rw[←hy] at g7;have hym:y-(m:Int)=(v:Int):=by omega
 have w1:IntKind.u16.wrap (v:Int)=(v:Int):=by rw[IntKind.wrap_u16];omega
 have okn:=ok.n;clear h hy hm;go_enter func157,ntmps157;go_wp2_with fail;go_ret;exact⟨rfl,H.o.turnP ok HP.o HF.o,HF.o.mono (λ_ _ h=>Or.inr (Or.inl h))⟩
theorem IsP.row {po n:Nat}{bef aft:Nat→Nat}{od:Nat→Ord}(h:IsP w po n bef aft od)(x:Nat)(hx:x<n):w.cell? ⟨po,x*8,none⟩=some (.int .i64 (bef x))∧w.cell? ⟨po,x*8+1,none⟩=some (.int .i64 (aft x))∧w.cell? ⟨po,x*8+2,none⟩=some (.int .u32 (od x).ref)∧w.cell? ⟨po,x*8+3,none⟩=some (.int .u32 (od x).qf)∧w.cell? ⟨po,x*8+4,none⟩=some (.int .u8 (od x).qe.toNat)∧w.cell? ⟨po,x*8+5,none⟩=some (.int .u8 (od x).qd)∧w.cell? ⟨po,x*8+6,none⟩=some (.int .u16 (od x).qc)∧w.cell? ⟨po,x*8+7,none⟩=some (.int .u16 (od x).qa):=
 ⟨h.cell x 0 hx (by omega),h.cell x 1 hx (by omega),h.cell x 2 hx (by omega),h.cell x 3 hx (by omega),h.cell x 4 hx (by omega),h.cell x 5 hx (by omega),h.cell x 6 hx (by omega),h.cell x 7 hx (by omega)⟩
theorem Zf3 (k:SK)(ok:k.ok)(x m a z free taken tk j:Nat)(r:Ord)(fs ls:Nat→Nat→Nat)(bef aft:Nat→Nat)(od:Nat→Ord)(w:World)(h:IsBk w k free taken fs ls bef aft od)(hx:x<k.n)(hm:(od x).qa=m)(_hlt:m<65536)(hr:{od x with qa:=0}=r)
  (hv:VV k.S k.L r.qd r.qe r.qc) (hj:jx r.qd r.qe=j) (ha:bef x=a) (hz:aft x=z) (ha1:a<k.n) (hz1:z<k.n) (hax:a≠x) (hzx:z≠x) (ht:taken≤100) (ht1:tk+1=taken)
  (ff ll:Nat) (hff:(if fs j (r.qc-1)=x then z else fs j (r.qc-1))=ff) (hll:(if ls j (r.qc-1)=x then a else ls j (r.qc-1))=ll):
  Calls prog 157 #[.pointer (some ⟨k.bk,0,none⟩),.int .i64 x,.int .u16 m] w λe w'=>e=.returned (.int .u16 0)∧
   IsBk w' k x tk (upd2 fs j (r.qc-1) ff) (upd2 ls j (r.qc-1) ll) (updN (updN bef z a) x 0) (updN (updN (updN aft a z) x 0) x free) (updN od x Xr)∧Fr k.F w w':=by
 have gK:w.cell? ⟨k.bk,0,none⟩=some (.slice (some ⟨k.po,0,none⟩) k.n k.n):=h.K.cell 0;have g7:w.cell? ⟨k.po,x*8+7,none⟩=some (.int .u16 m):=by rw[←hm];exact h.P.cell x 7 hx (by omega)
 have f7:=h.P.frozen (x*8+7);have i1:(x:Int)<(k.n:Int):=by omega
 have HP:Hid (IsP (w.setCell ⟨k.po,x*8+7,none⟩ (.int .u16 0)) k.po k.n bef aft (updN od x r)):=by rw[←hr];exact h.P.setShares x 0
 have HF:Hid (Fr (λj=>j=k.po) w (w.setCell ⟨k.po,x*8+7,none⟩ (.int .u16 0))):=Fr.setCell w ⟨k.po,x*8+7,none⟩ _;have HB1:Hid (IsBk (w.setCell ⟨k.po,x*8+7,none⟩ (.int .u16 0)) k free taken fs ls bef aft (updN od x r)):=h.turnP ok HP.o HF.o;have H:=Zc h;have okn:=ok.n;have HV:=Zc hv;have hj2:j<k.S*2:=by rw[←hj];exact Zcv _ hv.1
 have hq:r.qc-1<k.L:=by have:=hv.2.2;omega
 have HFL:=Zc (Zd hff hll);have HAZ:=Zc (Zd ha hz);have HJ:=Zc hj;have w0:IntKind.u16.wrap ((m:Int)-(m:Int))=0:=by rw[IntKind.wrap_u16];omega
 clear h hm hr hv hff hll ha hz hj;go_enter func157,ntmps157;go_wp2_with fail;clear gK g7 f7;generalize w.setCell ⟨k.po,x*8+7,none⟩ (.int .u16 0)=w1 at HP HF HB1 ⊢;obtain⟨q0,q1,q2,q3,q4,q5,q6,q7⟩:=HP.o.row x hx;rw[Xk] at q2 q3 q4 q5 q6 q7;rw[HAZ.o.1] at q0;rw[HAZ.o.2] at q1;have hsz1:∀j,k.F j→j<w1.heap.size:=HB1.o.lt;go_region_held3 (λw'=>w'.cell? ⟨k.po,x*8,none⟩=some (.int .i64 a)∧w'.cell? ⟨k.po,x*8+1,none⟩=some (.int .i64 z)∧w'.cell? ⟨k.po,x*8+2,none⟩=some (.int .u32 r.ref)∧w'.cell? ⟨k.po,x*8+3,none⟩=some (.int .u32 r.qf)∧w'.cell? ⟨k.po,x*8+4,none⟩=some (.int .u8 r.qe.toNat)∧w'.cell? ⟨k.po,x*8+5,none⟩=some (.int .u8 r.qd)∧w'.cell? ⟨k.po,x*8+6,none⟩=some (.int .u16 r.qc)∧w'.cell? ⟨k.po,x*8+7,none⟩=some (.int .u16 r.qa)) (first|exact m3|exact m2|go_keep)
  (first
   | (go_at_call 166;refine(Ti k ok a z free taken r fs ls _ _ _ w1.drew (HB1.o.keep (λ_ _=>rfl)) HV.o).mono ?_;rintro e w2 ⟨rfl,hf2⟩;have hB2:Hid (IsBk w2 k free taken fs ls bef aft (updN od x r)):=HB1.o.keep (λj hj=>hf2.out.block j (hsz1 j hj) (λe=>e));have m2:=hB2.out.P.row x hx;rw[Xk,HAZ.o.1,HAZ.o.2] at m2)
   | (go_at_call 168;rw[HJ.o];refine(Zdg k.bk (k.ln j) k.L (r.qc-1) x (fs j (r.qc-1)) (ls j (r.qc-1)) a z (k.kc free taken) _ _ (fs j) (ls j) _ w2 hB2.out.K hB2.out.P (hB2.out.Ls _ hj2) hq hx rfl rfl (show k.n≤1000 by omega) HAZ.o.1 HAZ.o.2 ha1 hz1 hax hzx ok.bp (ok.lp _ hj2) (Ne.symm (ok.lb _ hj2))).mono ?_;rintro e w3 ⟨rfl,hp3,hl3,hf3⟩;have m3:=IsP.row hp3 x hx;rw[Xk,Xj _ _ _ _ (Ne.symm hzx),Xj _ _ _ _ (Ne.symm hax),HAZ.o.1,HAZ.o.2] at m3))
 have HB3:Hid (IsBk w3 k free taken (upd2 fs j (r.qc-1) ff) (upd2 ls j (r.qc-1) ll) (updN bef z a) (updN aft a z) (updN od x r)):=by rw[HFL.o.1,HFL.o.2] at hl3;exact hB2.out.turnL ok hp3 _ hj2 hl3 hf3
 have HF3:Hid (Fr k.F w w3):=(HF.o.mono (G:=k.F) (λ_ _ h=>Or.inr (Or.inl h))).trans (((Fr.drew (λ_=>False) w1).mono (λ_ _ h=>h.elim)).trans ((hf2.out.mono (λ_ _ h=>h.elim)).trans (hf3.mono (G:=k.F) (λ_ _ h=>h.elim (λh=>Or.inr (Or.inl h)) (λh=>Or.inr (Or.inr (Or.inr ⟨_,hj2,h⟩))))) (λ_ _ h=>h)) (λ_ _ h=>h)) (λ_ _ h=>h);clear hp3 hl3 hf3 q0 q1 q2 q3 q4 q5 q6 q7 m2 m3;go_wp2_with ((go_at_call 169;refine(Zeu k.bk x free tk (k.kc free taken) _ _ _ w3 HB3.o.K HB3.o.P hx (show k.n≤1000 by omega) (show taken≤1000 by omega) ht1 rfl ok.bp).mono ?_;rintro e w4 ⟨rfl,hp4,hk4,hf4⟩))
 go_ret;rw[Ql od] at hp4;exact⟨rfl,HB3.o.turnPK ok hp4 hk4 hf4,HF3.o.trans hf4 (λ_ _ h=>h.elim (λh=>Or.inr (Or.inl h)) (λh=>Or.inl h))⟩
theorem Zh9 (k:SK)(w:World)(taken x m v:Nat)(od:Nat→Ord)(ps:Nat→UInt8→Nat→List Nat)(fl:List Nat)(h:Bks w k taken od ps fl)(hx:x<k.n)(hm:(od x).qa=m+v)(hv:v≠0)(hlt:m+v<65536):
  Calls prog 157 #[.pointer (some ⟨k.bk,0,none⟩),.int .i64 x,.int .u16 m] w λe w'=>e=.returned (.int .u16 v)∧Bks w' k taken (updN od x {od x with qa:=v}) ps fl∧Fr k.F w w':=by
 obtain⟨free,fs,ls,bef,aft,h1,h2⟩:=h.ex;refine(Zfx k h.ok x m v free taken fs ls bef aft od w h1 hx hm hv hlt).mono ?_;rintro e w' ⟨rfl,hb,hf⟩;exact⟨rfl,⟨h.ok,_,_,_,_,_,hb,h2⟩,hf⟩
theorem Zh7 (k:SK)(w:World)(taken tk x m:Nat)(od:Nat→Ord)(ps:Nat→UInt8→Nat→List Nat)(fl a b:List Nat)(h:Bks w k taken od ps fl)(hm:(od x).qa=m)(hlt:m<65536)(hv:VV k.S k.L (od x).qd (od x).qe (od x).qc)(hab:ps (od x).qd (od x).qe (od x).qc=a++x::b)(ht:taken≤100)(ht1:tk+1=taken):
  Calls prog 157 #[.pointer (some ⟨k.bk,0,none⟩),.int .i64 x,.int .u16 m] w λe w'=>e=.returned (.int .u16 0)∧Bks w' k tk (updN od x Xr) (updQ ps (od x).qd (od x).qe (od x).qc (a++b)) (x::fl)∧Fr k.F w w':=by
 obtain⟨free,fs,ls,bef,aft,h1,h2⟩:=h.ex;obtain⟨l1,l2,l3,l4,l5,l6⟩:=h2.leave hv hab;have hx:x<k.n:=h2.lt _ _ _ hv x (by rw[hab];simp);have hx0:x≠0:=h2.ne0 hv (by rw[hab];simp);have okn:=h.ok.n;have ha1:bef x<k.n:=by
  rcases l3 with e|e
  ·omega
  ·exact h2.lt _ _ _ hv _ (by rw[hab];simp[e])
 have hz1:aft x<k.n:=by
  rcases l4 with e|e
  ·omega
  ·exact h2.lt _ _ _ hv _ (by rw[hab];simp[e])
 refine(Zf3 k h.ok x m (bef x) (aft x) free taken tk _ _ fs ls bef aft od w h1 hx hm hlt rfl hv rfl rfl rfl ha1 hz1 l5 l6 ht ht1 _ _ rfl rfl).mono ?_;rintro e w' ⟨rfl,hb,hf⟩;rw[Ql] at hb;exact⟨rfl,⟨h.ok,_,_,_,_,_,hb,(l1.setx l2 0 free).give l2 hx0 hx (Xk _ _ _)⟩,hf⟩
theorem Zef {α:Type}(g:Nat→α)(i:Nat):updN g i (g i)=g:=by
 funext j
 unfold updN;by_cases e:j=i<;>simp[e]
theorem Um (v0 v1 v2 v3 v4 v5 u0 u1 u2 u3 u4 u5:Value)(p s p' s':Nat)(w:World)(hp:p'=p)(hs:s'≤s):
  Calls prog 77 #[.agg #[v0,v1,v2,v3,v4,v5,.int .u16 p,.int .u16 s],.agg #[u0,u1,u2,u3,u4,u5,.int .u16 p',.int .u16 s']] w λe w'=>e=.returned (.bool true)∧Below w.heap.size w w':=by
 subst hp;have i2:(s':Int)≤(s:Int):=by omega
 go_enter func77,ntmps77;go_wp2_with fail;go_ret;exact⟨rfl,((Zm _ _).alloc (Zh _) _).alloc (by rw[Xb];omega) _⟩
theorem Zi0 (k:SK)(ok:k.ok)(x free taken:Nat)(o r:Ord)(fs ls:Nat→Nat→Nat)(bef aft:Nat→Nat)(od:Nat→Ord)(w:World)(h:IsBk w k free taken fs ls bef aft od)(hx:x<k.n)(hr:od x=r)(hp:o.qc=r.qc)(hs:o.qa≤r.qa):
  Calls prog 155 #[.pointer (some ⟨k.bk,0,none⟩),.int .i64 x,ordV 0 0 o] w λe w'=>e=.returned (.tuple #[])∧
   IsBk w' k free taken fs ls bef aft (updN od x o)∧Fr k.F w w':=by
 have gK:w.cell? ⟨k.bk,0,none⟩=some (.slice (some ⟨k.po,0,none⟩) k.n k.n):=h.K.cell 0;obtain⟨q0,q1,q2,q3,q4,q5,q6,q7⟩:=h.P.row x hx;rw[hr] at q2 q3 q4 q5 q6 q7;generalize hba:bef x=a at *;generalize hza:aft x=z at *;have fp:∀i,w.frozen? ⟨k.po,i,none⟩=false:=h.P.frozen;have fp0:=fp (x*8);have fp1:=fp (x*8+1);have fp2:=fp (x*8+2);have fp3:=fp (x*8+3);have fp4:=fp (x*8+4);have fp5:=fp (x*8+5);have fp6:=fp (x*8+6);have fp7:=fp (x*8+7);clear fp;have i1:(x:Int)<(k.n:Int):=by omega
 have i2:(o.qa:Int)≤(r.qa:Int):=by omega
 have hsz:∀j,k.F j→j<w.heap.size:=h.lt;have hbl:=hsz k.bk (Or.inl rfl);have hpl:=hsz k.po (Or.inr (Or.inl rfl));have H:=Zc h;have HBA:=Zc (Zd hba hza);have HR:=Zc hr;have HP:=Zc hp;have HSH:=Zc hs;have okn:=ok.n;clear h hba hza hr hp hs;unfold ordV ordL;go_enter func155,ntmps155;go_wp2_with fail;generalize hOb:Obj.cells _ 108=Ob;have hbx:Box (w.alloc Ob) w.heap.size 0 0 o:=Box.of (t:=108) (by rw[YX,Zg rfl,←hOb];rfl);have hfb:∀i,(w.alloc Ob).frozen? ⟨w.heap.size,i,none⟩=false:=λi=>by unfold World.frozen?;rw[YX,Zg rfl,←hOb];simp
 have hB0:IsBk (w.alloc Ob) k free taken fs ls bef aft od:=H.o.keep (λj hj=>by rw[YX,Zj (by have:=hsz j hj;omega)]);have hF0:=Fr.alloc (λ_=>False) w Ob;clear gK q0 q1 q2 q3 q4 q5 q6 q7 fp0 fp1 fp2 fp3 fp4 fp5 fp6 fp7 hOb;generalize w.alloc Ob=W at hB0 hbx hF0 hfb ⊢;obtain⟨q0,q1,q2,q3,q4,q5,q6,q7⟩:=hB0.P.row x hx;rw[HR.o] at q2 q3 q4 q5 q6 q7;rw[HBA.o.1] at q0;rw[HBA.o.2] at q1;obtain⟨c0,c1,c2,c3,c4,c5,c6,c7⟩:=hbx;have HB0:=Zc hB0;have HF0:=Zc hF0;have HFB:=Zc hfb;clear hB0 hF0 hfb;have hplW:k.po<W.heap.size:=HB0.o.lt k.po (Or.inr (Or.inl rfl));have hszW:w.heap.size<W.heap.size:=ZU W _ c0;go_region_held3 (λw'=>w'.cell? ⟨k.po,x*8,none⟩=some (.int .i64 a)∧w'.cell? ⟨k.po,x*8+1,none⟩=some (.int .i64 z)∧w'.cell? ⟨k.po,x*8+2,none⟩=some (.int .u32 r.ref)∧w'.cell? ⟨k.po,x*8+3,none⟩=some (.int .u32 r.qf)∧w'.cell? ⟨k.po,x*8+4,none⟩=some (.int .u8 r.qe.toNat)∧w'.cell? ⟨k.po,x*8+5,none⟩=some (.int .u8 r.qd)∧w'.cell? ⟨k.po,x*8+6,none⟩=some (.int .u16 r.qc)∧w'.cell? ⟨k.po,x*8+7,none⟩=some (.int .u16 r.qa)∧w'.cell? ⟨w.heap.size,0,none⟩=some (.int .i64 0)∧w'.cell? ⟨w.heap.size,1,none⟩=some (.int .i64 0)∧w'.cell? ⟨w.heap.size,2,none⟩=some (.int .u32 o.ref)∧w'.cell? ⟨w.heap.size,3,none⟩=some (.int .u32 o.qf)∧w'.cell? ⟨w.heap.size,4,none⟩=some (.int .u8 o.qe.toNat)∧w'.cell? ⟨w.heap.size,5,none⟩=some (.int .u8 o.qd)∧w'.cell? ⟨w.heap.size,6,none⟩=some (.int .u16 o.qc)∧w'.cell? ⟨w.heap.size,7,none⟩=some (.int .u16 o.qa))
  (first|(with_reducible exact m1)|go_keep)
  ((go_at_call 77;refine(Um _ _ _ _ _ _ _ _ _ _ _ _ r.qc r.qa o.qc o.qa W.drew HP.o HSH.o).mono ?_;rintro e w1 ⟨rfl,hb1⟩;have m1:w1.cell? ⟨k.po,x*8,none⟩=some (.int .i64 a)∧w1.cell? ⟨k.po,x*8+1,none⟩=some (.int .i64 z)∧w1.cell? ⟨k.po,x*8+2,none⟩=some (.int .u32 r.ref)∧w1.cell? ⟨k.po,x*8+3,none⟩=some (.int .u32 r.qf)∧w1.cell? ⟨k.po,x*8+4,none⟩=some (.int .u8 r.qe.toNat)∧w1.cell? ⟨k.po,x*8+5,none⟩=some (.int .u8 r.qd)∧w1.cell? ⟨k.po,x*8+6,none⟩=some (.int .u16 r.qc)∧w1.cell? ⟨k.po,x*8+7,none⟩=some (.int .u16 r.qa)∧w1.cell? ⟨w.heap.size,0,none⟩=some (.int .i64 0)∧w1.cell? ⟨w.heap.size,1,none⟩=some (.int .i64 0)∧w1.cell? ⟨w.heap.size,2,none⟩=some (.int .u32 o.ref)∧w1.cell? ⟨w.heap.size,3,none⟩=some (.int .u32 o.qf)∧w1.cell? ⟨w.heap.size,4,none⟩=some (.int .u8 o.qe.toNat)∧w1.cell? ⟨w.heap.size,5,none⟩=some (.int .u8 o.qd)∧w1.cell? ⟨w.heap.size,6,none⟩=some (.int .u16 o.qc)∧w1.cell? ⟨w.heap.size,7,none⟩=some (.int .u16 o.qa):=⟨(hb1.cell (p:=⟨k.po,x*8,none⟩) hplW).trans q0,(hb1.cell (p:=⟨k.po,x*8+1,none⟩) hplW).trans q1,(hb1.cell (p:=⟨k.po,x*8+2,none⟩) hplW).trans q2,(hb1.cell (p:=⟨k.po,x*8+3,none⟩) hplW).trans q3,(hb1.cell (p:=⟨k.po,x*8+4,none⟩) hplW).trans q4,(hb1.cell (p:=⟨k.po,x*8+5,none⟩) hplW).trans q5,(hb1.cell (p:=⟨k.po,x*8+6,none⟩) hplW).trans q6,(hb1.cell (p:=⟨k.po,x*8+7,none⟩) hplW).trans q7,(hb1.cell (p:=⟨w.heap.size,0,none⟩) hszW).trans c0,(hb1.cell (p:=⟨w.heap.size,1,none⟩) hszW).trans c1,(hb1.cell (p:=⟨w.heap.size,2,none⟩) hszW).trans c2,(hb1.cell (p:=⟨w.heap.size,3,none⟩) hszW).trans c3,(hb1.cell (p:=⟨w.heap.size,4,none⟩) hszW).trans c4,(hb1.cell (p:=⟨w.heap.size,5,none⟩) hszW).trans c5,(hb1.cell (p:=⟨w.heap.size,6,none⟩) hszW).trans c6,(hb1.cell (p:=⟨w.heap.size,7,none⟩) hszW).trans c7⟩))
 have hF1:Fr (λj=>j=w.heap.size) W w1:=(Fr.drew _ W).trans (Fr.of_below hb1 _) (λ_ _ h=>h);have hBw1:IsBk w1 k free taken fs ls bef aft od:=HB0.o.keep (λj hj=>hb1.block j (HB0.o.lt j hj));have fbw:∀i,w1.frozen? ⟨w.heap.size,i,none⟩=false:=λi=>by have h:=HFB.o i;unfold World.frozen? at h ⊢;rw[hb1.block w.heap.size hszW];exact h
 have fb0:=fbw 0;have fb1:=fbw 1;have fp:=hBw1.P.frozen;have fp0:=fp (x*8);have fp1:=fp (x*8+1);have fp2:=fp (x*8+2);have fp3:=fp (x*8+3);have fp4:=fp (x*8+4);have fp5:=fp (x*8+5);have fp6:=fp (x*8+6);have fp7:=fp (x*8+7);have hbw:=hb1.size;have hplw:k.po<w1.heap.size:=Zn hplW hbw;have hszw:w.heap.size<w1.heap.size:=Zn hszW hbw;clear fp q0 q1 q2 q3 q4 q5 q6 q7 c0 c1 c2 c3 c4 c5 c6 c7 fbw;obtain⟨q0,q1,q2,q3,q4,q5,q6,q7,c0,c1,c2,c3,c4,c5,c6,c7⟩:=m1;have HF1:=Zc hF1;have HBW1:=Zc hBw1;clear hF1 hBw1 hb1;go_wp2_with fail;refine ZC (Yu rfl _ _ _) rfl ?_;have hFa:Fr (λj=>j=w.heap.size) W ((w1.setCell ⟨w.heap.size,0,none⟩ (.int .i64 a)).setCell ⟨w.heap.size,1,none⟩ (.int .i64 z)):=
  HF1.o.trans ((Fr.setCell _ ⟨w.heap.size,0,none⟩ _).trans (Fr.setCell _ ⟨w.heap.size,1,none⟩ _) (λ_ _ h=>h)) (λ_ _ h=>h)
 generalize (w1.setCell ⟨w.heap.size,0,none⟩ (.int .i64 a)).setCell ⟨w.heap.size,1,none⟩ (.int .i64 z)=Wa at hFa ⊢;have hBa:IsBk Wa k free taken fs ls bef aft od:=HB0.o.keep (λj hj=>hFa.block j (HB0.o.lt j hj) (λe=>by have:=hsz j hj;omega));have hp2:IsP ((((((((Wa.setCell ⟨k.po,x*8,none⟩ (.int .i64 a)).setCell ⟨k.po,x*8+1,none⟩ (.int .i64 z)).setCell ⟨k.po,x*8+2,none⟩ (.int .u32 o.ref)).setCell ⟨k.po,x*8+3,none⟩ (.int .u32 o.qf)).setCell ⟨k.po,x*8+4,none⟩ (.int .u8 o.qe.toNat)).setCell ⟨k.po,x*8+5,none⟩ (.int .u8 o.qd)).setCell ⟨k.po,x*8+6,none⟩ (.int .u16 o.qc)).setCell ⟨k.po,x*8+7,none⟩ (.int .u16 o.qa)) k.po k.n bef aft (updN od x o):=by have:=hBa.P.setOrd x a z o;rw[set8,←HBA.o.1,←HBA.o.2,Zef,Zef,HBA.o.1,HBA.o.2] at this;exact this
 have hf2:Fr (λj=>j=k.po) Wa ((((((((Wa.setCell ⟨k.po,x*8,none⟩ (.int .i64 a)).setCell ⟨k.po,x*8+1,none⟩ (.int .i64 z)).setCell ⟨k.po,x*8+2,none⟩ (.int .u32 o.ref)).setCell ⟨k.po,x*8+3,none⟩ (.int .u32 o.qf)).setCell ⟨k.po,x*8+4,none⟩ (.int .u8 o.qe.toNat)).setCell ⟨k.po,x*8+5,none⟩ (.int .u8 o.qd)).setCell ⟨k.po,x*8+6,none⟩ (.int .u16 o.qc)).setCell ⟨k.po,x*8+7,none⟩ (.int .u16 o.qa)):=by have:=XA k.po (ordL a z o) (x*8) Wa;rw[set8] at this;exact this
 refine⟨rfl,hBa.turnP ok hp2 hf2,?_⟩;exact(HF0.o.mono (λ_ _ h=>h.elim)).trans ((hFa.mono (G:=λj=>j=w.heap.size∨k.F j) (λ_ _ h=>Or.inl h)).trans hf2 (λ_ _ h=>Or.inr (Or.inr (Or.inl h)))) (λi hi h=>h.elim (λh=>by omega) (λh=>h))
theorem UB (v0 v1 v2 v3 v4 v5 u0 u1 u2 u3 u4 u5:Value)(p s p' s':Nat)(w:World)(hc:p'≠p∨(p'=p∧s<s')):
  Calls prog 77 #[.agg #[v0,v1,v2,v3,v4,v5,.int .u16 p,.int .u16 s],.agg #[u0,u1,u2,u3,u4,u5,.int .u16 p',.int .u16 s']] w λe w'=>e=.returned (.bool false)∧Below w.heap.size w w':=by
 have hc':(((p':Int)==(p:Int))=false)∨(p'=p∧¬((s':Int)≤(s:Int))∧¬s'≤s):=by
  rcases hc with h|⟨h1,h2⟩
  ·left;simp;omega
  ·right;exact⟨h1,by omega,by omega⟩
 clear hc;rcases hc' with h|⟨rfl,h,h'⟩;all_goals
  go_enter func77,ntmps77;go_wp2_with fail;go_ret;exact⟨rfl,((Zm _ _).alloc (Zh _) _).alloc (by rw[Xb];omega) _⟩
theorem Zfj (k:SK)(ok:k.ok)(x a z free taken j j':Nat)(o r:Ord)(fs ls fs1 ls1:Nat→Nat→Nat)(bef aft:Nat→Nat)(od:Nat→Ord)(w:World)(h:IsBk w k free taken fs ls bef aft od)(hx:x<k.n)(hr:od x=r)
  (hc:o.qc≠r.qc∨(o.qc=r.qc∧r.qa<o.qa))
  (hv:VV k.S k.L r.qd r.qe r.qc) (hj:jx r.qd r.qe=j) (hv':VV k.S k.L o.qd o.qe o.qc) (hj':jx o.qd o.qe=j')
  (ha:bef x=a) (hz:aft x=z) (ha1:a<k.n) (hz1:z<k.n) (hax:a≠x) (hzx:z≠x)
  (hfs1:upd2 fs j (r.qc-1) (if fs j (r.qc-1)=x then z else fs j (r.qc-1))=fs1) (hls1:upd2 ls j (r.qc-1) (if ls j (r.qc-1)=x then a else ls j (r.qc-1))=ls1)
  (hl1:ls1 j' (o.qc-1)<k.n) (ff:Nat) (hff:(if fs1 j' (o.qc-1)=0 then x else fs1 j' (o.qc-1))=ff):
  Calls prog 155 #[.pointer (some ⟨k.bk,0,none⟩),.int .i64 x,ordV 0 0 o] w λe w'=>e=.returned (.tuple #[])∧
   IsBk w' k free taken (upd2 fs1 j' (o.qc-1) ff) (upd2 ls1 j' (o.qc-1) x)
    (updN (updN (updN bef z a) x 0) x (ls1 j' (o.qc-1))) (updN (updN (updN (updN aft a z) x 0) x 0) (ls1 j' (o.qc-1)) x) (updN od x o)∧Fr k.F w w':=by
 have gK:w.cell? ⟨k.bk,0,none⟩=some (.slice (some ⟨k.po,0,none⟩) k.n k.n):=h.K.cell 0;have i1:(x:Int)<(k.n:Int):=by omega
 have hsz:∀j,k.F j→j<w.heap.size:=h.lt;have hbl:=hsz k.bk (Or.inl rfl);have hpl:=hsz k.po (Or.inr (Or.inl rfl));have H:=Zc h;have HAZ:=Zc (Zd ha hz);have HR:=Zc hr;have HV:=Zc hv;have HV':=Zc hv';have HJ:=Zc hj;have HJ':=Zc hj';have HFS:=Zc (Zd hfs1 hls1);have HFF:=Zc hff;have okn:=ok.n;have hj2:j<k.S*2:=by rw[←hj];exact Zcv _ hv.1
 have hq:r.qc-1<k.L:=by have:=hv.2.2;omega
 have hj2':j'<k.S*2:=by rw[←hj'];exact Zcv _ hv'.1
 have hq':o.qc-1<k.L:=by have:=hv'.2.2;omega
 have hg1:w.heap.size≠k.ln j:=by have:=hsz _ (Or.inr (Or.inr (Or.inr ⟨_,hj2,rfl⟩)));omega
 have hg2:w.heap.size≠k.ln j':=by have:=hsz _ (Or.inr (Or.inr (Or.inr ⟨_,hj2',rfl⟩)));omega
 have hgp:w.heap.size≠k.po:=by omega
 have HC:=Zc hc;clear h ha hz hr hv hv' hj hj' hfs1 hls1 hff hc;unfold ordV ordL;go_enter func155,ntmps155;go_wp2_with fail;generalize hOb:Obj.cells _ 108=Ob;have hbx:Box (w.alloc Ob) w.heap.size 0 0 o:=Box.of (t:=108) (by rw[YX,Zg rfl,←hOb];rfl);have hB0:IsBk (w.alloc Ob) k free taken fs ls bef aft od:=H.o.keep (λj hj=>by rw[YX,Zj (by have:=hsz j hj;omega)]);have hF0:=Fr.alloc (λ_=>False) w Ob;clear gK hOb;generalize w.alloc Ob=W at hB0 hbx hF0 ⊢;obtain⟨q0,q1,q2,q3,q4,q5,q6,q7⟩:=hB0.P.row x hx;rw[HR.o] at q2 q3 q4 q5 q6 q7;rw[HAZ.o.1] at q0;rw[HAZ.o.2] at q1;obtain⟨c0,c1,c2,c3,c4,c5,c6,c7⟩:=hbx;have HB0:=Zc hB0;have HF0:=Zc hF0;clear hB0 hF0;have hplW:k.po<W.heap.size:=HB0.o.lt k.po (Or.inr (Or.inl rfl));have hszW:w.heap.size<W.heap.size:=ZU W _ c0;go_region_held3 (λw'=>w'.cell? ⟨k.po,x*8,none⟩=some (.int .i64 a)∧w'.cell? ⟨k.po,x*8+1,none⟩=some (.int .i64 z)∧w'.cell? ⟨k.po,x*8+2,none⟩=some (.int .u32 r.ref)∧w'.cell? ⟨k.po,x*8+3,none⟩=some (.int .u32 r.qf)∧w'.cell? ⟨k.po,x*8+4,none⟩=some (.int .u8 r.qe.toNat)∧w'.cell? ⟨k.po,x*8+5,none⟩=some (.int .u8 r.qd)∧w'.cell? ⟨k.po,x*8+6,none⟩=some (.int .u16 r.qc)∧w'.cell? ⟨k.po,x*8+7,none⟩=some (.int .u16 r.qa)∧w'.cell? ⟨w.heap.size,0,none⟩=some (.int .i64 0)∧w'.cell? ⟨w.heap.size,1,none⟩=some (.int .i64 0)∧w'.cell? ⟨w.heap.size,2,none⟩=some (.int .u32 o.ref)∧w'.cell? ⟨w.heap.size,3,none⟩=some (.int .u32 o.qf)∧w'.cell? ⟨w.heap.size,4,none⟩=some (.int .u8 o.qe.toNat)∧w'.cell? ⟨w.heap.size,5,none⟩=some (.int .u8 o.qd)∧w'.cell? ⟨w.heap.size,6,none⟩=some (.int .u16 o.qc)∧w'.cell? ⟨w.heap.size,7,none⟩=some (.int .u16 o.qa))
  (first|(with_reducible exact m1)|go_keep)
  ((go_at_call 77;refine(UB _ _ _ _ _ _ _ _ _ _ _ _ r.qc r.qa o.qc o.qa W.drew HC.o).mono ?_;rintro e w1 ⟨rfl,hb1⟩;have m1:w1.cell? ⟨k.po,x*8,none⟩=some (.int .i64 a)∧w1.cell? ⟨k.po,x*8+1,none⟩=some (.int .i64 z)∧w1.cell? ⟨k.po,x*8+2,none⟩=some (.int .u32 r.ref)∧w1.cell? ⟨k.po,x*8+3,none⟩=some (.int .u32 r.qf)∧w1.cell? ⟨k.po,x*8+4,none⟩=some (.int .u8 r.qe.toNat)∧w1.cell? ⟨k.po,x*8+5,none⟩=some (.int .u8 r.qd)∧w1.cell? ⟨k.po,x*8+6,none⟩=some (.int .u16 r.qc)∧w1.cell? ⟨k.po,x*8+7,none⟩=some (.int .u16 r.qa)∧w1.cell? ⟨w.heap.size,0,none⟩=some (.int .i64 0)∧w1.cell? ⟨w.heap.size,1,none⟩=some (.int .i64 0)∧w1.cell? ⟨w.heap.size,2,none⟩=some (.int .u32 o.ref)∧w1.cell? ⟨w.heap.size,3,none⟩=some (.int .u32 o.qf)∧w1.cell? ⟨w.heap.size,4,none⟩=some (.int .u8 o.qe.toNat)∧w1.cell? ⟨w.heap.size,5,none⟩=some (.int .u8 o.qd)∧w1.cell? ⟨w.heap.size,6,none⟩=some (.int .u16 o.qc)∧w1.cell? ⟨w.heap.size,7,none⟩=some (.int .u16 o.qa):=⟨(hb1.cell (p:=⟨k.po,x*8,none⟩) hplW).trans q0,(hb1.cell (p:=⟨k.po,x*8+1,none⟩) hplW).trans q1,(hb1.cell (p:=⟨k.po,x*8+2,none⟩) hplW).trans q2,(hb1.cell (p:=⟨k.po,x*8+3,none⟩) hplW).trans q3,(hb1.cell (p:=⟨k.po,x*8+4,none⟩) hplW).trans q4,(hb1.cell (p:=⟨k.po,x*8+5,none⟩) hplW).trans q5,(hb1.cell (p:=⟨k.po,x*8+6,none⟩) hplW).trans q6,(hb1.cell (p:=⟨k.po,x*8+7,none⟩) hplW).trans q7,(hb1.cell (p:=⟨w.heap.size,0,none⟩) hszW).trans c0,(hb1.cell (p:=⟨w.heap.size,1,none⟩) hszW).trans c1,(hb1.cell (p:=⟨w.heap.size,2,none⟩) hszW).trans c2,(hb1.cell (p:=⟨w.heap.size,3,none⟩) hszW).trans c3,(hb1.cell (p:=⟨w.heap.size,4,none⟩) hszW).trans c4,(hb1.cell (p:=⟨w.heap.size,5,none⟩) hszW).trans c5,(hb1.cell (p:=⟨w.heap.size,6,none⟩) hszW).trans c6,(hb1.cell (p:=⟨w.heap.size,7,none⟩) hszW).trans c7⟩))
 have hFV:Fr (λ_=>False) W w1:=(Fr.drew _ W).trans (Fr.of_below hb1 _) (λ_ _ h=>h);have hBV:IsBk w1 k free taken fs ls bef aft od:=HB0.o.keep (λj hj=>hb1.block j (HB0.o.lt j hj));clear q0 q1 q2 q3 q4 q5 q6 q7 c0 c1 c2 c3 c4 c5 c6 c7;obtain⟨-,-,-,-,-,-,-,-,c0,c1,c2,c3,c4,c5,c6,c7⟩:=m1;have hXV:Box w1 w.heap.size 0 0 o:=⟨c0,c1,c2,c3,c4,c5,c6,c7⟩;clear c0 c1 c2 c3 c4 c5 c6 c7 hb1;obtain⟨q0,q1,q2,q3,q4,q5,q6,q7⟩:=hBV.P.row x hx;rw[HR.o] at q2 q3 q4 q5 q6 q7;rw[HAZ.o.1] at q0;rw[HAZ.o.2] at q1;have HB1:=Zc hBV;have HX1:=Zc hXV;have HF1:=Zc hFV;clear hBV hXV hFV;go_wp2_with fail;have hsz1:∀j,k.F j→j<w1.heap.size:=HB1.o.lt;go_region_held3 (λw'=>w'.cell? ⟨k.po,x*8,none⟩=some (.int .i64 a)∧w'.cell? ⟨k.po,x*8+1,none⟩=some (.int .i64 z)∧w'.cell? ⟨k.po,x*8+2,none⟩=some (.int .u32 r.ref)∧w'.cell? ⟨k.po,x*8+3,none⟩=some (.int .u32 r.qf)∧w'.cell? ⟨k.po,x*8+4,none⟩=some (.int .u8 r.qe.toNat)∧w'.cell? ⟨k.po,x*8+5,none⟩=some (.int .u8 r.qd)∧w'.cell? ⟨k.po,x*8+6,none⟩=some (.int .u16 r.qc)∧w'.cell? ⟨k.po,x*8+7,none⟩=some (.int .u16 r.qa)) (first|exact m3|exact m2|go_keep)
  (first
   | (go_at_call 166;refine(Ti k ok a z free taken r fs ls _ _ _ w1.drew (HB1.o.keep (λ_ _=>rfl)) HV.o).mono ?_;rintro e w2 ⟨rfl,hf2⟩;have hB2:Hid (IsBk w2 k free taken fs ls bef aft od):=HB1.o.keep (λj hj=>hf2.out.block j (hsz1 j hj) (λe=>e));have m2:=hB2.out.P.row x hx;rw[HR.o,HAZ.o.1,HAZ.o.2] at m2)
   | (go_at_call 168;rw[HJ.o];refine(Zdg k.bk (k.ln j) k.L (r.qc-1) x (fs j (r.qc-1)) (ls j (r.qc-1)) a z (k.kc free taken) _ _ (fs j) (ls j) _ w2 hB2.out.K hB2.out.P (hB2.out.Ls _ hj2) hq hx rfl rfl (show k.n≤1000 by omega) HAZ.o.1 HAZ.o.2 ha1 hz1 hax hzx ok.bp (ok.lp _ hj2) (Ne.symm (ok.lb _ hj2))).mono ?_;rintro e w3 ⟨rfl,hp3,hl3,hf3⟩;have m3:=IsP.row hp3 x hx;rw[HR.o,Xj _ _ _ _ (Ne.symm hzx),Xj _ _ _ _ (Ne.symm hax),HAZ.o.1,HAZ.o.2] at m3))
 have HB3:Hid (IsBk w3 k free taken fs1 ls1 (updN bef z a) (updN aft a z) od):=by rw[←HFS.o.1,←HFS.o.2];exact hB2.out.turnL ok hp3 _ hj2 hl3 hf3
 have HX3:Hid (Box w3 w.heap.size 0 0 o):=((HX1.o.fr (Fr.drew (λ_=>False) w1) (λe=>e)).fr hf2.out (λe=>e)).fr hf3 (λe=>e.elim hgp hg1);have HF3:Hid (Fr (λi=>k.F i∨w.heap.size≤i) w w3):=(HF0.o.mono (λ_ _ h=>h.elim)).trans ((HF1.o.mono (λ_ _ h=>h.elim)).trans (((Fr.drew (λ_=>False) w1).mono (λ_ _ h=>h.elim)).trans ((hf2.out.mono (λ_ _ h=>h.elim)).trans (hf3.mono (G:=k.F) (λ_ _ h=>h.elim (λh=>Or.inr (Or.inl h)) (λh=>Or.inr (Or.inr (Or.inr ⟨_,hj2,h⟩))))) (λ_ _ h=>h)) (λ_ _ h=>h)) (λ_ _ h=>h)) (λ_ _ h=>Or.inl h);clear hp3 hl3 hf3 hf2 hB2 q0 q1 q2 q3 q4 q5 q6 q7 m2;obtain⟨c0,c1,c2,c3,c4,c5,c6,c7⟩:=HX3.o;obtain⟨q0,q1,q2,q3,q4,q5,q6,q7⟩:=m3;have fp:=HB3.o.P.frozen;have fp0:=fp (x*8);have fp1:=fp (x*8+1);have fp2:=fp (x*8+2);have fp3:=fp (x*8+3);have fp4:=fp (x*8+4);have fp5:=fp (x*8+5);have fp6:=fp (x*8+6);have fp7:=fp (x*8+7);clear fp;go_wp2_with fail;have hp4:IsP ((((((((w3.setCell ⟨k.po,x*8,none⟩ (.int .i64 0)).setCell ⟨k.po,x*8+1,none⟩ (.int .i64 0)).setCell ⟨k.po,x*8+2,none⟩ (.int .u32 o.ref)).setCell ⟨k.po,x*8+3,none⟩ (.int .u32 o.qf)).setCell ⟨k.po,x*8+4,none⟩ (.int .u8 o.qe.toNat)).setCell ⟨k.po,x*8+5,none⟩ (.int .u8 o.qd)).setCell ⟨k.po,x*8+6,none⟩ (.int .u16 o.qc)).setCell ⟨k.po,x*8+7,none⟩ (.int .u16 o.qa)) k.po k.n (updN (updN bef z a) x 0) (updN (updN aft a z) x 0) (updN od x o):=by have:=HB3.o.P.setOrd x 0 0 o;rw[set8] at this;exact this
 have hf4:Fr (λj=>j=k.po) w3 ((((((((w3.setCell ⟨k.po,x*8,none⟩ (.int .i64 0)).setCell ⟨k.po,x*8+1,none⟩ (.int .i64 0)).setCell ⟨k.po,x*8+2,none⟩ (.int .u32 o.ref)).setCell ⟨k.po,x*8+3,none⟩ (.int .u32 o.qf)).setCell ⟨k.po,x*8+4,none⟩ (.int .u8 o.qe.toNat)).setCell ⟨k.po,x*8+5,none⟩ (.int .u8 o.qd)).setCell ⟨k.po,x*8+6,none⟩ (.int .u16 o.qc)).setCell ⟨k.po,x*8+7,none⟩ (.int .u16 o.qa)):=by have:=XA k.po (ordL 0 0 o) (x*8) w3;rw[set8] at this;exact this
 clear fp0 fp1 fp2 fp3 fp4 fp5 fp6 fp7 q0 q1 q2 q3 q4 q5 q6 q7 c0 c1 c2 c3 c4 c5 c6 c7;generalize ((((((((w3.setCell ⟨k.po,x*8,none⟩ (.int .i64 0)).setCell ⟨k.po,x*8+1,none⟩ (.int .i64 0)).setCell ⟨k.po,x*8+2,none⟩ (.int .u32 o.ref)).setCell ⟨k.po,x*8+3,none⟩ (.int .u32 o.qf)).setCell ⟨k.po,x*8+4,none⟩ (.int .u8 o.qe.toNat)).setCell ⟨k.po,x*8+5,none⟩ (.int .u8 o.qd)).setCell ⟨k.po,x*8+6,none⟩ (.int .u16 o.qc)).setCell ⟨k.po,x*8+7,none⟩ (.int .u16 o.qa))=w4 at hp4 hf4 ⊢;have HB4:Hid (IsBk w4 k free taken fs1 ls1 (updN (updN bef z a) x 0) (updN (updN aft a z) x 0) (updN od x o)):=HB3.o.turnP ok hp4 hf4;have HX4:Hid (Box w4 w.heap.size 0 0 o):=HX3.o.fr hf4 hgp;have HF4:Hid (Fr (λi=>k.F i∨w.heap.size≤i) w w4):=HF3.o.trans hf4 (λ_ _ h=>Or.inl (Or.inr (Or.inl h)));clear hp4 hf4;have hsz4:∀j,k.F j→j<w4.heap.size:=HB4.o.lt;obtain⟨c0,c1,c2,c3,c4,c5,c6,c7⟩:=HX4.o;go_region_held3 (λw'=>w'.cell? ⟨w.heap.size,0,none⟩=some (.int .i64 0)∧w'.cell? ⟨w.heap.size,1,none⟩=some (.int .i64 0)∧w'.cell? ⟨w.heap.size,2,none⟩=some (.int .u32 o.ref)∧w'.cell? ⟨w.heap.size,3,none⟩=some (.int .u32 o.qf)∧w'.cell? ⟨w.heap.size,4,none⟩=some (.int .u8 o.qe.toNat)∧w'.cell? ⟨w.heap.size,5,none⟩=some (.int .u8 o.qd)∧w'.cell? ⟨w.heap.size,6,none⟩=some (.int .u16 o.qc)∧w'.cell? ⟨w.heap.size,7,none⟩=some (.int .u16 o.qa)) (first|exact m6|exact m5|go_keep)
  (first
   | (go_at_call 166;refine(Ti k ok 0 0 free taken o fs1 ls1 _ _ _ w4.drew (HB4.o.keep (λ_ _=>rfl)) HV'.o).mono ?_;rintro e w5 ⟨rfl,hf5⟩;have m5:=(Box.fr (w:=w4.drew) ⟨c0,c1,c2,c3,c4,c5,c6,c7⟩ hf5.out (λe=>e)).all;have hB5:Hid (IsBk w5 k free taken fs1 ls1 (updN (updN bef z a) x 0) (updN (updN aft a z) x 0) (updN od x o)):=HB4.o.keep (λj hj=>hf5.out.block j (hsz4 j hj) (λe=>e)))
   | (go_at_call 165;rw[HJ'.o];refine(Zhh k.bk (k.ln j') k.L (o.qc-1) x (fs1 j' (o.qc-1)) (ls1 j' (o.qc-1)) (k.kc free taken) _ _ (fs1 j') (ls1 j') _ w5 hB5.out.K hB5.out.P (hB5.out.Ls _ hj2') hq' hx hl1 rfl rfl (show k.n≤1000 by omega) ok.bp (ok.lp _ hj2') (Ne.symm (ok.lb _ hj2'))).mono ?_;rintro e w6 ⟨rfl,hp6,hl6,hf6⟩;have m6:=((Box.fr (w:=w4.drew) ⟨c0,c1,c2,c3,c4,c5,c6,c7⟩ hf5.out (λe=>e)).fr hf6 (λe=>e.elim hgp hg2)).all))
 have HB6:Hid (IsBk w6 k free taken (upd2 fs1 j' (o.qc-1) ff) (upd2 ls1 j' (o.qc-1) x) (updN (updN (updN bef z a) x 0) x (ls1 j' (o.qc-1))) (updN (updN (updN (updN aft a z) x 0) x 0) (ls1 j' (o.qc-1)) x) (updN od x o)):=by rw[HFF.o] at hl6;exact hB5.out.turnL ok hp6 _ hj2' hl6 hf6
 have HF6:Hid (Fr k.F w w6):=(HF4.o.trans (((Fr.drew (λ_=>False) w4).mono (λ_ _ h=>h.elim)).trans ((hf5.out.mono (λ_ _ h=>h.elim)).trans (hf6.mono (G:=k.F) (λ_ _ h=>h.elim (λh=>Or.inr (Or.inl h)) (λh=>Or.inr (Or.inr (Or.inr ⟨_,hj2',h⟩))))) (λ_ _ h=>h)) (λ_ _ h=>h)) (λ_ _ h=>Or.inl h)).mono (λi hi h=>h.elim (λh=>h) (λh=>by omega));clear hp6 hl6 hf6 hf5 hB5 m5 m6 c0 c1 c2 c3 c4 c5 c6 c7;go_wp2_with fail;go_end0
 exact⟨rfl,HB6.o,HF6.o⟩
theorem Ze4 (k:SK)(w:World)(taken x:Nat)(o:Ord)(od:Nat→Ord)(ps:Nat→UInt8→Nat→List Nat)(fl:List Nat)(h:Bks w k taken od ps fl)(hx:x<k.n)(hp:o.qc=(od x).qc)(hs:o.qa≤(od x).qa):
  Calls prog 155 #[.pointer (some ⟨k.bk,0,none⟩),.int .i64 x,ordV 0 0 o] w λe w'=>e=.returned (.tuple #[])∧Bks w' k taken (updN od x o) ps fl∧Fr k.F w w':=by
 obtain⟨free,fs,ls,bef,aft,h1,h2⟩:=h.ex;refine(Zi0 k h.ok x free taken o (od x) fs ls bef aft od w h1 hx rfl hp hs).mono ?_;rintro e w' ⟨rfl,hb,hf⟩;exact⟨rfl,⟨h.ok,_,_,_,_,_,hb,h2⟩,hf⟩
theorem Zh3 (k:SK)(w:World)(taken x:Nat)(o:Ord)(od:Nat→Ord)(ps:Nat→UInt8→Nat→List Nat)(fl a b:List Nat)(h:Bks w k taken od ps fl)(hc:o.qc≠(od x).qc∨(o.qc=(od x).qc∧(od x).qa<o.qa))
  (hv:VV k.S k.L (od x).qd (od x).qe (od x).qc) (hv':VV k.S k.L o.qd o.qe o.qc) (hab:ps (od x).qd (od x).qe (od x).qc=a++x::b) (ps1:Nat→UInt8→Nat→List Nat) (hps1:updQ ps (od x).qd (od x).qe (od x).qc (a++b)=ps1):
  Calls prog 155 #[.pointer (some ⟨k.bk,0,none⟩),.int .i64 x,ordV 0 0 o] w λe w'=>e=.returned (.tuple #[])∧Bks w' k taken (updN od x o) (updQ ps1 o.qd o.qe o.qc (ps1 o.qd o.qe o.qc++[x])) fl∧Fr k.F w w':=by
 obtain⟨free,fs,ls,bef,aft,h1,h2⟩:=h.ex;obtain⟨l1,l2,l3,l4,l5,l6⟩:=h2.leave hv hab;rw[hps1] at l1 l2;have hx:x<k.n:=h2.lt _ _ _ hv x (by rw[hab];simp);have hx0:x≠0:=h2.ne0 hv (by rw[hab];simp);have okn:=h.ok.n;have ha1:bef x<k.n:=by
  rcases l3 with e|e
  ·omega
  ·exact h2.lt _ _ _ hv _ (by rw[hab];simp[e])
 have hz1:aft x<k.n:=by
  rcases l4 with e|e
  ·omega
  ·exact h2.lt _ _ _ hv _ (by rw[hab];simp[e])
 generalize hfs:upd2 fs (jx (od x).qd (od x).qe) ((od x).qc-1) (if fs (jx (od x).qd (od x).qe) ((od x).qc-1)=x then aft x else fs (jx (od x).qd (od x).qe) ((od x).qc-1))=fs1 at l1;generalize hls:upd2 ls (jx (od x).qd (od x).qe) ((od x).qc-1) (if ls (jx (od x).qd (od x).qe) ((od x).qc-1)=x then bef x else ls (jx (od x).qd (od x).qe) ((od x).qc-1))=ls1 at l1;have hl:ls1 (jx o.qd o.qe) (o.qc-1)<k.n:=by
  rw[(l1.line _ _ _ hv').last];rcases Vk (ps1 o.qd o.qe o.qc) 0 with e|e
  ·rw[e];omega
  ·exact l1.lt _ _ _ hv' _ e
 refine(Zfj k h.ok x (bef x) (aft x) free taken _ _ o (od x) fs ls fs1 ls1 bef aft od w h1 hx rfl hc hv rfl hv' rfl rfl rfl ha1 hz1 l5 l6 hfs hls hl _ rfl).mono ?_;rintro e w' ⟨rfl,hb,hf⟩;exact⟨rfl,⟨h.ok,_,_,_,_,_,hb,(l1.setx l2 0 0).join hv' hx0 hx l2⟩,hf⟩
end
end Go.Proofs.YtphkchjejbffeaaGreat
