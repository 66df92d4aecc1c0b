/- M3, M4, M5, B1, Ap, B2, B3, B4, B6, R2 -/
import Derived.Test.YtphkchjejbffeaaGreatK04
import Derived.Test.YtphkchjejbffeaaGreatK15
import Derived.WalkMore
import Derived.Deep.CutBlock
import Derived.Deep.DeepCutAuto
set_option maxHeartbeats 16000000
set_option maxRecDepth 100000
namespace Go.Proofs.YtphkchjejbffeaaGreat
open Tryz
open Go.RowKit
variable {b base cap g n pm r:Nat}{M:Nat→Option Nat}{v:Value}{w w':World}
section
open Go.RowKit
attribute [local go_sem ↓] Go.wp_at_zero Go.wp_at_succ
def FedJ (w:World)(b:Nat)(c:BC)(k:SK)(fin:St)(v:Value)(wr:World):Prop:=
 ∃cc stc l,Rel wr b cc k stc∧Inb cc stc∧Rd wr (GB b cc k) v l∧stc.feed l=fin∧Fr (GB b c k) w wr∧(∀j,GB b cc k j→GB b c k j∨w.heap.size≤j)
def FedK (w:World)(b:Nat)(c:BC)(k:SK)(fin:St)(a':Go.Act)(w':World):Prop:=∃(v' u2 u3 u4 u5 u6 u7 u8 u9 u10 u11 u12 u13 u14 u15 u16 u17 u18 u19 u20 u21 u22 u23 u24 u25 u26 u27:Value),a'={tmps:=#[.pointer (some ⟨b,0,none⟩),v',u2,u3,u4,u5,u6,u7,u8,u9,u10,u11,u12,u13,u14,u15,u16,u17,u18,u19,u20,u21,u22,u23,u24,u25,u26,u27],defers:=[]}∧Hid (FedJ w b c k fin v' w')
theorem Fed.after {wr:World}{c cc:BC}{k:SK}{st:St}(hf:Fr (GB b c k) w wr)(hs:∀j,GB b cc k j→GB b c k j∨w.heap.size≤j)(h:Fed wr b cc k w' st):Fed w b c k w' st:=by
 obtain⟨c',h1,h2,h3,h4⟩:=h;refine⟨c',h1,h2,hf.trans h3 (λi hi hg=>(hs i hg).elim id (λe=>by omega)),λj hj => ?_⟩;rcases h4 j hj with e|e
 ·exact hs j e
 ·exact Or.inr (Zw hf.size e)
theorem Rd.lenV {w:World}{F:Nat→Prop}{v:Value}{l:List UInt8}(h:Rd w F v l):lenV v=l.length:=by
 rcases h with⟨rfl,rfl⟩|⟨g,o,cap,rfl,-⟩
 ·rfl
 ·rfl
theorem feed_any (b:Nat)(c:BC)(k:SK)(st:St)(v:Value)(l:List UInt8)(w:World)(h:Rel w b c k st)(hi:Inb c st)(hrd:Rd w (GB b c k) v l)(ha:(st.feed l).ans.length≤big)(ht:(st.feed l).tape.length≤big):
  Calls prog 26 #[.pointer (some ⟨b,0,none⟩),v] w λe w'=>e=.returned (.tuple #[])∧Fed w b c k w' (st.feed l):=by
 have HJ:Hid (FedJ w b c k (st.feed l) v w):=⟨c,st,l,h,hi,hrd,rfl,Fr.refl _ _,λ_ e=>Or.inl e⟩;have HL:=Zc (Zd ha ht);generalize st.feed l=fin at HJ HL ⊢;clear h hi hrd ha ht;go_enter func26,ntmps26;go_wp2_with fail;refine Zcq 0 (FedK w b c k fin) (λa' _=>lenV (a'.tmps.getD 1 undef)) ⟨v,_,_,_,_,_,_,_,_,_,_,_,_,_,_,_,_,_,_,_,_,_,_,_,_,_,_,rfl,HJ⟩ ?_;clear HJ v l;rintro a' wr ⟨v,u2,u3,u4,u5,u6,u7,u8,u9,u10,u11,u12,u13,u14,u15,u16,u17,u18,u19,u20,u21,u22,u23,u24,u25,u26,u27,rfl,HJ⟩;obtain⟨cc,stc,l,h,hi,hrd,hfin,hfr,hsub⟩:=HJ.o;have g0:wr.cell? ⟨b,0,none⟩=some (.bool cc.opn):=by rw[h.B.cell];exact(cc.get h.B.len).1
 have HR:=Zc h;have HI:=Zc hi;have HD:=Zc hrd;have HE:=Zc hfin;have HF:=Zc (Zd hfr hsub);clear h hi hrd hfin hfr hsub HJ;generalize hop:cc.opn=op at g0;have HO:=Zc hop;clear hop;cases op with
 | false=>
  have HX:Hid (Fed w b c k wr fin):=by have e:stc.feed l=stc:=Zas l stc (by rw[←HI.o.opn];exact HO.o);have:=HE.o;rw[e] at this;subst this;exact⟨cc,HR.o,HI.o,HF.o.1,HF.o.2⟩
  go_wp2_with fail;simp only[Exit.jump];refine ZC (Yu rfl _ _ _) rfl ?_;exact⟨rfl,HX.o⟩
 | true=>
  go_wp2_with fail;refine(Zh4 (GB b cc k) b (Or.inl rfl) cc v l wr HR.o.B HD.o HI.o.less).mono ?_;rintro e w1 ⟨v1,whole,n,bytes',rfl,hG⟩;have HG:=Zc hG;clear hG;cases whole with
  | false=>
   have HX:Hid (Fed w b c k w1 fin):=by have:=fed_less HR.o HI.o HO.o HG.o;rw[HE.o] at this;exact this.after HF.o.1 HF.o.2
   go_wp2_with fail;simp only[Exit.jump];refine ZC (Yu rfl _ _ _) rfl ?_;exact⟨rfl,HX.o⟩
  | true=>
   obtain⟨lz,hlz⟩:=Za (cc.have_+n);have HM:Hid (Calls prog 63 #[.pointer (some ⟨b,2,none⟩)] w1 λe w'=>e=.returned (.slice (some ⟨b,2,none⟩) lz 13)∧IsB w' b {cc with bytes:=bytes',have_:=0}∧Fr (λk=>k=b) w1 w'):=by show Calls _ _ _ _ _;rw[←hlz];exact Zc6 b _ w1 HG.o.isB (by have:=(HG.o.yes rfl).2.1;have:=TI (Xa bytes' 0);show cc.have_+n≤13;omega)
   have HLZ:=Zc hlz;clear hlz;go_wp2_with fail;refine HM.o.mono ?_;rintro e w2 ⟨rfl,hB2,hf2⟩;obtain⟨m,m1,m2,m3,m4,m5,m6,m7,m8,m9⟩:=Zk2 HR.o HI.o HO.o HG.o hB2 hf2;have hml:m.length=lz:=m1.trans HLZ.o;have hmon:=mon_feed l stc;rw[HE.o] at hmon;have HDO:=Zc (do_any b _ k _ m w2 m6 m3 m2 (Zw hmon.ans.length_le HL.o.1) (Zw hmon.tape.length_le HL.o.2));rw[hml] at HDO;have HMs:=Zc (Zd m4 (Zd m5 (Zd m7 (Zd m8 m9))));clear hB2 hf2 m1 m2 m3 m4 m5 m6 m7 m8 m9 hml hmon HM;go_wp2_with fail;refine HDO.o.mono ?_;rintro e w3 ⟨rfl,hd⟩;have HN:Hid (FedJ w b c k fin v1 w3∧lenV v1<lenV v):=by
    obtain⟨c3,r1,r2,r3⟩:=hd;obtain⟨m4,m5,m7,m8,m9⟩:=HMs.o;have hsub:∀j,GB b c3 k j→GB b cc k j∨w2.heap.size≤j:=λj hj=>(r2.sub j hj).imp (m8 j) id;have hfr:=r2.fr.mono (λj _ e=>m8 j e);refine⟨⟨c3,_,l.drop n,r1,⟨?_,?_,?_,Or.inl r2.have_⟩,m9.move hfr hsub,?_,?_,?_⟩,?_⟩
    ·rw[r3,Zjp];show(if _ then cc.opn else false)=if _ then stc.opn else false
     rw[HI.o.opn]
    ·rw[Zck,r2.have_];rfl
    ·rw[Zck,r2.have_];rfl
    ·rw[←m4,←Vi,Yr];exact HE.o
    ·exact HF.o.1.trans (m7.trans hfr (λ_ _ e=>e)) (λi hi hg=>(HF.o.2 i hg).elim id (λe=>by omega))
    ·intro j hj;rcases hsub j hj with e|e
     ·exact HF.o.2 j e
     ·exact Or.inr (Zw HF.o.1.size (Zw m7.size e))
    ·rw[HD.o.lenV,m9.lenV,Zt];have:=HG.o.le;omega
   clear hd HDO HMs;go_wp2_with fail;go_step3
   exact⟨rfl,⟨v1,_,_,_,_,_,_,_,_,_,_,_,_,_,_,_,_,_,_,_,_,_,_,_,_,_,_,rfl,HN.o.1⟩,HN.o.2⟩
theorem look_any (b:Nat)(c:BC)(k:SK)(st:St)(w:World)(h:Rel w b c k st)(hi:Inb c st):
  Calls prog 21 #[.pointer (some ⟨b,0,none⟩)] w λe w'=>e=.returned (Uy st)∧Below w.heap.size w w':=by
 obtain⟨M,od,ps,fl,hbk,hM,hF⟩:=h.ex;obtain⟨free,fs,ls,bef,aft,hIs,hLk⟩:=hbk.ex;have HRS:=Zc (λw' (hw:w'.heap[k.bk]?=w.heap[k.bk]?)=>Zhk k.bk (k.kc free st.ql) w' ⟨hw.trans hIs.K.blk⟩);have g0:w.cell? ⟨b,0,none⟩=some (.bool c.opn):=by rw[h.B.cell];exact(c.get h.B.len).1
 have g1:w.cell? ⟨b,1,none⟩=some (.int .u64 c.time):=by rw[h.B.cell];exact(c.get h.B.len).2.1
 have g15:w.cell? ⟨b,15,none⟩=some (.int .i64 c.have_):=by rw[h.B.cell];exact(c.get h.B.len).2.2.1
 have g19:w.cell? ⟨b,19,none⟩=some (.pointer (some ⟨k.bk,0,none⟩)):=by rw[h.B.cell,←h.bk];exact(c.get h.B.len).2.2.2.2.2.2.1
 have HV:Hid (Uy st=.agg #[.int .i64 c.time,.int .i64 st.ql,.bool c.opn,.int .i64 c.have_]):=by show _=_;unfold Uy;rw[←h.time,←hi.opn,hi.len]
 have t1:=h.tm;have w1:IntKind.i64.wrap (c.time:Int)=(c.time:Int):=by have:=h.time;have:=h.inv.time;rw[Zq];omega
 have HKL:=Zc hIs.K.lt;generalize st.ql=r at *;clear h hi hbk hM hF hIs hLk t1;go_enter func21,ntmps21;go_wp2_with fail;have hbl:b<w.heap.size:=ZU w _ g0;have hkl:=HKL.o;generalize hW:w.alloc (Obj.cells #[Value.int IntKind.i64 0,Value.int IntKind.i64 0,Value.bool false,Value.int IntKind.i64 0] 70)=W;have hF:Fr (λ_=>False) w W:=by rw[←hW];exact Fr.alloc _ _ _
 have HBW:Hid (Below w.heap.size w W):=by show Below _ _ _;rw[←hW];exact(Zm _ _).alloc (Zh _) _
 have hbx:W.heap[w.heap.size]?=some (Obj.cells #[Value.int IntKind.i64 0,Value.int IntKind.i64 0,Value.bool false,Value.int IntKind.i64 0] 70):=by rw[←hW,YX,Zg rfl]
 clear hW;have q0:=hF.cell g0 (λe=>e);have q1:=hF.cell g1 (λe=>e);have q15:=hF.cell g15 (λe=>e);have q19:=hF.cell g19 (λe=>e);have HC:Hid (∀W',W'.heap=W.heap→Calls prog 57 #[.pointer (some ⟨k.bk,0,none⟩)] W' λe w'=>e=.returned (.int .i64 r)∧w'=W'):=λW' e=>HRS.o W' (by rw[e];exact hF.block k.bk hkl (λe=>e));obtain⟨g,hg⟩:=Za (w.heap.size);have x0:W.drew.cell? ⟨g,0,none⟩=some (.int .i64 0):=by rw[←hg];exact Zk _ _ 0 _ _ (0,0) hbx
 have x1:W.drew.cell? ⟨g,1,none⟩=some (.int .i64 0):=by rw[←hg];exact Zk _ _ 1 _ _ (0,0) hbx
 have x2:W.drew.cell? ⟨g,2,none⟩=some (.bool false):=by rw[←hg];exact Zk _ _ 2 _ _ (0,0) hbx
 have x3:W.drew.cell? ⟨g,3,none⟩=some (.int .i64 0):=by rw[←hg];exact Zk _ _ 3 _ _ (0,0) hbx
 have fo:∀j,W.drew.frozen? ⟨g,j,none⟩=false:=λj=>by rw[←hg];show W.frozen? _=false;simp[World.frozen?,hbx]
 have f0:=fo 0;have f1:=fo 1;have f2:=fo 2;have f3:=fo 3;rw[hg] at hbx HBW ⊢;have HBX:=Zc hbx;have HG:=Zc hg;have hbg:b<g:=by rw[←hg];exact hbl
 have hbn:¬b=g:=by omega
 have hbn2:¬g=b:=by omega
 have HS:=Zc (Zd q0 (Zd q1 (Zd q15 q19)));clear fo hbx hF g0 g1 g15 g19 HRS hbl hkl hg HKL;go_region_held3 (λw'=>w'.cell? ⟨b,0,none⟩=some (.bool c.opn)∧w'.cell? ⟨b,1,none⟩=some (.int .u64 c.time)∧w'.cell? ⟨b,15,none⟩=some (.int .i64 c.have_)∧w'.cell? ⟨b,19,none⟩=some (.pointer (some ⟨k.bk,0,none⟩))) (first|with_reducible exact m1|go_keep)
  ((go_at_call 57;refine(HC.o W.drew rfl).mono ?_;rintro e w2 ⟨rfl,hw⟩;have m1:w2.cell? ⟨b,0,none⟩=some (.bool c.opn)∧w2.cell? ⟨b,1,none⟩=some (.int .u64 c.time)∧w2.cell? ⟨b,15,none⟩=some (.int .i64 c.have_)∧w2.cell? ⟨b,19,none⟩=some (.pointer (some ⟨k.bk,0,none⟩)):=(by rw[hw];exact HS.o);have y0:w2.cell? ⟨g,0,none⟩=some (.int .i64 0):=(by rw[hw];exact x0);have y1:w2.cell? ⟨g,1,none⟩=some (.int .i64 0):=(by rw[hw];exact x1);have y2:w2.cell? ⟨g,2,none⟩=some (.bool false):=(by rw[hw];exact x2);have y3:w2.cell? ⟨g,3,none⟩=some (.int .i64 0):=(by rw[hw];exact x3);have e0:w2.frozen? ⟨g,0,none⟩=false:=(by rw[hw];exact f0);have e1:w2.frozen? ⟨g,1,none⟩=false:=(by rw[hw];exact f1);have e2:w2.frozen? ⟨g,2,none⟩=false:=(by rw[hw];exact f2);have e3:w2.frozen? ⟨g,3,none⟩=false:=(by rw[hw];exact f3);have HW:=Zc hw;clear hw))
 have hbx2:w2.heap[g]?=_:=(show w2.heap[g]?=W.heap[g]? by rw[HW.o];rfl).trans HBX.o;have hfin:((((w2.setCell ⟨g,0,none⟩ (.int .i64 c.time)).setCell ⟨g,1,none⟩ (.int .i64 r)).setCell ⟨g,2,none⟩ (.bool c.opn)).setCell ⟨g,3,none⟩ (.int .i64 c.have_)).heap[g]?=some (.cells #[.int .i64 c.time,.int .i64 r,.bool c.opn,.int .i64 c.have_] 70):=by rw[Zi _ g 3 _ _ _ (Zi _ g 2 _ _ _ (Zi _ g 1 _ _ _ (Zi _ g 0 _ _ _ hbx2)))];rfl
 have hfr:Fr (λj=>j=g) w2 ((((w2.setCell ⟨g,0,none⟩ (.int .i64 c.time)).setCell ⟨g,1,none⟩ (.int .i64 r)).setCell ⟨g,2,none⟩ (.bool c.opn)).setCell ⟨g,3,none⟩ (.int .i64 c.have_)):=(Fr.setCell w2 ⟨g,0,none⟩ _).trans ((Fr.setCell _ ⟨g,1,none⟩ _).trans ((Fr.setCell _ ⟨g,2,none⟩ _).trans (Fr.setCell _ ⟨g,3,none⟩ _) (λ_ _ e=>e)) (λ_ _ e=>e)) (λ_ _ e=>e);have HBL:Hid (Below w.heap.size w ((((w2.setCell ⟨g,0,none⟩ (.int .i64 c.time)).setCell ⟨g,1,none⟩ (.int .i64 r)).setCell ⟨g,2,none⟩ (.bool c.opn)).setCell ⟨g,3,none⟩ (.int .i64 c.have_))):=by
  have h1:Fr (λj=>j=g) w W:=Fr.of_below (by rw[HG.o];exact HBW.o) _;have h2:Fr (λj=>j=g) W w2:=by rw[HW.o];exact Fr.drew _ _
  exact((h1.trans h2 (λ_ _ e=>e)).trans hfr (λ_ _ e=>e)).below (Zh _) (λj e=>by rw[HG.o];exact Nat.le_of_eq e.symm)
 generalize ((((w2.setCell ⟨g,0,none⟩ (.int .i64 c.time)).setCell ⟨g,1,none⟩ (.int .i64 r)).setCell ⟨g,2,none⟩ (.bool c.opn)).setCell ⟨g,3,none⟩ (.int .i64 c.have_))=w9 at hfin HBL ⊢;have u0:w9.cell? ⟨g,0,none⟩=some (.int .i64 c.time):=Zk _ _ 0 _ _ (0,0) hfin;have u1:w9.cell? ⟨g,1,none⟩=some (.int .i64 r):=Zk _ _ 1 _ _ (0,0) hfin;have u2:w9.cell? ⟨g,2,none⟩=some (.bool c.opn):=Zk _ _ 2 _ _ (0,0) hfin;have u3:w9.cell? ⟨g,3,none⟩=some (.int .i64 c.have_):=Zk _ _ 3 _ _ (0,0) hfin;clear hfin hfr hbx2 m1 y0 y1 y2 y3 e0 e1 e2 e3 x0 x1 x2 x3 f0 f1 f2 f3 q0 q1 q15 q19;go_wp2_with fail;exact ZC (v:=.agg #[.int .i64 c.time,.int .i64 r,.bool c.opn,.int .i64 c.have_]) (by simp[results,results21,go_sem,u0,u1,u2,u3]) rfl ⟨by rw[HV.o],HBL.o⟩
theorem infoApi :(prog.info? 40).map (λi=>(i.zero,i.size,i.bytes))=some (some (.agg #[.int .i64 0,.int .i64 0,.int .u8 0,.int .i64 0,.int .i64 0,.int .i64 0]),6,48):=by kernel_rfl
theorem XR :prog.underlying 29=some (.slice 40):=by kernel_rfl
theorem Ud {α:Type}(f:α→List Value)(n:Nat)(hn:∀x,(f x).length=n)(l:List α)(i j:Nat)(x:α)(u:Value)(hi:l[i]?=some x)(hj:j<n)(hu:(f x)[j]?=some u):(l.flatMap f)[i*n+j]?=some u:=by
 induction l generalizing i with
 | nil=>simp at hi
 | cons y l ih=>
  rw[Yk];cases i with
  | zero=>
   simp at hi;subst hi;rw[Nat.zero_mul,ZN,Ye (by rw[hn];omega)];exact hu
  | succ i=>
   simp at hi;have:=ih i hi;rw[Yx (by rw[hn,Nat.add_mul];omega),hn,←this]
   congr 1
   rw[Nat.add_mul];omega
theorem Zhc {ra:Option Addr}{bef aft:Nat→Nat}{od:Nat→Ord}{L:List Nat}(h:w.ownsRow b 108 8 (.slice ra n cap) L.length (Vn bef aft od L))(hL:0<L.length):
  ∃g,ra=some ⟨g,0,none⟩∧g<w.heap.size∧∀i x,L[i]?=some x→∀t u,t<8→(ordL (bef x) (aft x) (od x))[t]?=some u→w.cell? ⟨g,i*8+t,none⟩=some u:=by
 rcases h.2 with⟨h1,h2⟩|⟨g,cap',cur,h1,h2,h3,h4⟩
 ·omega
 ·cases h1;refine⟨g,rfl,(Ze.1 h3).1,λi x hi t u ht hu => ?_⟩;have:=h.cells (g:=g) rfl (i*8+t) u (Ud _ 8 (λ_=>rfl) L i t x u hi ht hu)
  rwa [Yg,ZN] at this
theorem Zgp {b':Nat}{e:TypeId}{size:Nat}{xs:List Value}(h:w.ownsRow b e size v n xs)(hb:b'≤b):w.ownsRow b' e size v n xs:=by
 refine⟨h.1,?_⟩;rcases h.2 with h|⟨g,cap,cur,h1,h2,h3⟩
 ·exact .inl h
 ·exact .inr ⟨g,cap,cur,h1,Zw hb h2,h3⟩
theorem Vc (o:Ord):∀u∈o.cells,u.oneCell'=true:=by intro u hu;simp[Ord.cells] at hu;rcases hu with rfl|rfl|rfl|rfl|rfl|rfl<;>rfl
theorem VJ (w:World)(o:Ord):Uo (w.alloc (.cells o.cells.toArray 40)) 6 (.slice (some ⟨w.heap.size,0,none⟩) 1 1) 1 o.cells:=by refine Or.inr ⟨w.heap.size,0,1,rfl,rfl,?_⟩;intro j u hu;rw[Zk _ w.heap.size _ _ 40 (0,0) (by rw[YX,Zg rfl])];simpa using hu
theorem Zdx {β:Type}(l:List Nat)(f g:Nat→List β)(h:∀i∈l,f i=g i):l.flatMap f=l.flatMap g:=by
 induction l with
 | nil=>rfl
 | cons x l ih=>rw[Yk,Yk,h x (by simp),ih (λi hi=>h i (by simp[hi]))]
theorem listed {S L:Nat}{od:Nat→Ord}{ps:Nat→UInt8→Nat→List Nat}{fl:List Nat}{st:St}(h:Fi S L n od ps fl M st)(s:Nat)(hs:s<S):(upS L ps s 2).map od=st.book s:=by
 have e:upS L ps s 2=upR L ps s 66 L++upR L ps s 83 L:=by simp[upS,List.range_succ,sdx]
 have hb:(upR L ps s 66 L).map od=st.bids s:=by unfold upR St.bids;rw[←h.hL,List.map_flatMap];refine Zdx _ _ _ (λi hi => ?_);have:=YR.1 hi;rw[Zg rfl];exact(h.q s 66 (L-i) ⟨hs,Or.inl rfl,by omega,by omega⟩).symm
 have ha:(upR L ps s 83 L).map od=st.asks s:=by unfold upR St.asks;rw[←h.hL,List.map_flatMap];refine Zdx _ _ _ (λi hi => ?_);have:=YR.1 hi;rw[Zj (by decide)];exact(h.q s 83 (i+1) ⟨hs,Or.inr rfl,by omega,by omega⟩).symm
 rw[e,ZH,hb,ha];rfl
theorem upS_mem {L s x:Nat}{ps:Nat→UInt8→Nat→List Nat}(h:x∈upS L ps s 2):∃d p,(d=66∨d=83)∧1≤p∧p≤L∧x∈ps s d p:=by simp only[upS,upR,List.mem_flatMap,YR] at h;obtain⟨i,hi,r,hr,hx⟩:=h;exact⟨_,_,sdx_ok i,by split<;>omega,by split<;>omega,hx⟩
structure Ord.small (o:Ord):Prop where
 ref:o.ref<4294967296
 qf:o.qf<4294967296
 qd:o.qd<256
 qc:o.qc<65536
 qa:o.qa<65536
theorem Zdj (a z:Nat)(o:Ord)(w:World)(h:o.small):
  Calls prog 49 #[ordV a z o] w λe w'=>e=.returned (.agg o.cells.toArray)∧Below w.heap.size w w':=by
 obtain⟨h1,h2,h3,h4,h5⟩:=h;unfold ordV ordL Ord.cells;go_enter func49,ntmps49;go_wp2_with fail;exact ZC (v:=.agg #[.int .i64 o.ref,.int .i64 o.qf,.int .u8 o.qe.toNat,.int .i64 o.qd,.int .i64 o.qc,.int .i64 o.qa]) (by simp[results,results49,go_sem]) rfl ⟨rfl,Below.alloc ((Zm _ _).alloc (Zh _) _) (by rw[Xb];omega) _⟩
theorem book_any (b:Nat)(c:BC)(k:SK)(st:St)(s:Nat)(w:World)(h:Rel w b c k st)(hs:s<st.qk):
  Calls prog 17 #[.pointer (some ⟨b,0,none⟩),.int .i64 s] w λe w'=>∃v,
   e=.returned (.tuple #[v,.int .i64 0])∧w'.ownsRow w.heap.size 40 6 v (st.book s).length ((st.book s).flatMap Ord.cells)∧Below w.heap.size w w':=by
 obtain⟨M,od,ps,fl,hbk,hM,hF⟩:=h.ex;obtain⟨free,fs,ls,bef,aft,hIs,hLk⟩:=hbk.ex;have g19:w.cell? ⟨b,19,none⟩=some (.pointer (some ⟨k.bk,0,none⟩)):=by rw[h.B.cell,←h.bk];exact(c.get h.B.len).2.2.2.2.2.2.1
 have HST:=Zc (Qi k.bk (k.kc free st.ql) w hIs.K);have hS:k.S=st.qk:=hF.hS;have HW:=Zc (Vs s 0 ((k.S:Int)-1) w (by omega) (by omega));have ks:(k.S:Int)≤8:=by have:=hbk.ok.S;omega
 have HLI:=Zc (list_mem k hbk.ok s free st.ql fs ls bef aft od ps fl w hIs hLk (by omega));have HLEN:Hid (∀PL nl,upS k.L ps s 2=PL→PL.length=nl→nl≤8320):=by rintro PL nl rfl rfl;have h1:=hLk.lenS (show s<k.S by omega) 2;have h2:k.L*k.n≤64*65:=Nat.mul_le_mul hbk.ok.L hbk.ok.n.2;omega
 have HSM:Hid (∀x,x∈upS k.L ps s 2→(od x).small):=by intro x hx;obtain⟨d,p,hd,hp1,hp2,hm⟩:=upS_mem hx;have hv:VV k.S k.L s d p:=⟨by omega,hd,hp1,hp2⟩;have hfit:=hF.fits hv hm;have k1:=hbk.ok.S;have k2:=hbk.ok.L;exact⟨hfit.ref,hfit.qf,by rw[hfit.qd];omega,by rw[hfit.qc];omega,by have:=hfit.most;omega⟩
 have HBK:Hid ((upS k.L ps s 2).map od=st.book s):=listed hF s (by omega);replace HST:Hid (Calls prog 47 #[.pointer (some ⟨k.bk,0,none⟩)] w λe w'=>e=.returned (.int .i64 k.S)∧w'=w):=HST;clear hS hs h hbk hM hF hIs hLk;go_enter func17,ntmps17;go_wp2_with fail;refine HST.o.mono (Zb ?_);clear HST;go_wp2_with fail;refine HW.o.mono (Zb ?_);clear HW;go_wp2_with fail;refine HLI.o.mono ?_;rintro e w1 ⟨v,rfl,hv,hb1⟩;obtain⟨va,vc,hvv,hvc,hvm⟩:=Xf hv;have HV:=Zc (Zd hv hb1);have HVV:=Zc hvv;clear hv hb1 HLI;generalize hPL:upS k.L ps s 2=PL at HV HVV;have HPL:=Zc hPL;obtain⟨nl,hnl⟩:=Za (PL.length);rw[hPL] at hvc;rw[hnl] at hvc;have HVV2:Hid (v=.slice va nl vc):=by show _=_;rw[←hnl];exact HVV.o
 have hvv2:=HVV2.o;subst hvv2;have HNL:=Zc hnl;clear hPL hvv hnl HVV HVV2;have HU:Hid (nl≤8320):=HLEN.o _ _ HPL.o HNL.o;have hnu:=HU.o;go_wp2_with fail;obtain⟨i0,hi,hz0,hz1,hz2⟩:=info_parts infoApi;go_loopw [6,25] (λv i wr=>∃j:Nat,j≤nl∧i=.int .i64 j∧Hid (wr.ownsRow w1.heap.size 40 6 v j (((PL.take j).map od).flatMap Ord.cells))∧Hid (Below w1.heap.size w1 wr)) (λ_ i _=>nl-(intOf i).toNat)
 case atStart=>exact⟨0,Zy _,rfl,ZO _ _ _ _,Zm _ _⟩
 case round=>
  obtain⟨j,hj,rfl,hown,hB⟩:=hrel;by_cases hjl:j<nl
  ·have i2:(j:Int)<(nl:Int):=by omega
   obtain⟨g,rfl,hg,hcs⟩:=Zhc HV.o.1 (by rw[HNL.o];omega);obtain⟨x,hx⟩:∃x,PL[j]?=some x:=⟨_,Zp (by rw[HNL.o];exact hjl)⟩;have hcx:=hcs j x hx;have HTK:Hid (((PL.take (j+1)).map od).flatMap Ord.cells=((PL.take j).map od).flatMap Ord.cells++(od x).cells):=by show _=_;rw[List.take_add_one,hx];simp
   have HSX:Hid ((od x).small):=HSM.o x (by rw[HPL.o];exact ZW hx);have hgr:g<wr.heap.size:=Zn hg hB.out.size;generalize od x=o at hcx HTK HSX;generalize bef x=bx at hcx;generalize aft x=ax at hcx;have cx:∀t u,t<8→(ordL bx ax o)[t]?=some u→wr.cell? ⟨g,j*8+t,none⟩=some u:=λt u ht hu=>(hB.out.cell (p:=⟨g,j*8+t,none⟩) hg).trans (hcx t u ht hu);have d0:wr.cell? ⟨g,j*8,none⟩=some (.int .i64 bx):=cx 0 _ (by omega) rfl;have d1:wr.cell? ⟨g,j*8+1,none⟩=some (.int .i64 ax):=cx 1 _ (by omega) rfl;have d2:wr.cell? ⟨g,j*8+2,none⟩=some (.int .u32 o.ref):=cx 2 _ (by omega) rfl;have d3:wr.cell? ⟨g,j*8+3,none⟩=some (.int .u32 o.qf):=cx 3 _ (by omega) rfl;have d4:wr.cell? ⟨g,j*8+4,none⟩=some (.int .u8 o.qe.toNat):=cx 4 _ (by omega) rfl;have d5:wr.cell? ⟨g,j*8+5,none⟩=some (.int .u8 o.qd):=cx 5 _ (by omega) rfl;have d6:wr.cell? ⟨g,j*8+6,none⟩=some (.int .u16 o.qc):=cx 6 _ (by omega) rfl;have d7:wr.cell? ⟨g,j*8+7,none⟩=some (.int .u16 o.qa):=cx 7 _ (by omega) rfl;clear cx hcx hcs;have HPA:Hid (∀W,Calls prog 49 #[.agg #[.int .i64 bx,.int .i64 ax,.int .u32 o.ref,.int .u32 o.qf,.int .u8 o.qe.toNat,.int .u8 o.qd,.int .u16 o.qc,.int .u16 o.qa]] W λe w'=>e=.returned (.agg #[.int .i64 o.ref,.int .i64 o.qf,.int .u8 o.qe.toNat,.int .i64 o.qd,.int .i64 o.qc,.int .i64 o.qa])∧Below W.heap.size W w'):=λW=>Zdj bx ax o W HSX.o;go_wp2_with fail;refine(HPA.o _).mono ?_;rintro e w2 ⟨rfl,hb2⟩;have hB2:Hid (Below w1.heap.size w1 w2):=(hB.out.alloc hB.out.size _).trans (hb2.mono (by rw[Xb];have:=hB.out.size;omega));have hown2:w2.ownsRow w1.heap.size 40 6 u6 j (((PL.take j).map od).flatMap Ord.cells):=YY hown.out (λg hg=>by have:=(hown.out.lt g hg).2;rw[hb2.block g (by rw[Xb];omega),YX,Zj (by omega)])
   have HOA:Hid (∀Ob:Obj,(w2.alloc Ob).ownsRow w1.heap.size 40 6 u6 j (((PL.take j).map od).flatMap Ord.cells)):=λOb=>YY hown2 (λg hg=>by rw[YX,Zj (by have:=(hown2.lt g hg).2;omega)]);have HOX:=Zc hown2;clear hb2 hown2 hown hB d0 d1 d2 d3 d4 d5 d6 d7 HPA hgr hg hx;go_wp2_with (at_builtin;go_must (refine Xc rfl _ _ 29 rfl w1.heap.size 40 i0 _ 6 48 XR hi hz0 hz1 hz2 rfl (by decide) u6 j (((PL.take j).map od).flatMap Ord.cells) rfl (HOA.o _) (.slice (some ⟨w2.heap.size,0,none⟩) 1 1) 1 o.cells rfl (VJ w2 o) (Vc o) (by unfold maxLen;omega) (by omega) (by rw[Xb];have:=hB2.out.size;omega) ?_);intro rb capb w3 hown3 hg3 hv3;have hB3:Hid (Below w1.heap.size w1 w3):=(hB2.out.alloc hB2.out.size _).grown hg3 (by rw[Xb];have:=hB2.out.size;omega) (λg hg=>(HOX.o.lt g hg).1);replace hown3:=Zc hown3;clear hg3 hv3)
   exact⟨⟨j+1,by omega,by go_num,by show World.ownsRow _ _ _ _ _ _ _;rw[HTK.o];exact hown3.out,hB3⟩,by simp[intOf];omega⟩
  ·have i2:¬((j:Int)<(nl:Int)):=by omega
   go_wp2_with fail;go_ret2
   have:j=nl:=by omega
   subst this;have hlen:(st.book s).length=j:=by rw[←HBK.o,HPL.o,Yl,HNL.o]
   refine⟨_,rfl,?_,HV.o.2.trans (hB.out.mono HV.o.2.size)⟩;rw[hlen,←HBK.o,HPL.o];have:=Zgp hown.out HV.o.2.size
   rwa [Yv (by rw[HNL.o];exact Zh _)] at this
end
section
open Go.RowKit
open Go.Maps (Keyed)
theorem IsM.drop (h:IsM w pm n M)(t:Nat)(ht:t<4294967296)(ty:TypeId):
  ∃w' n',(Builtin.delete_ #[62,98] ty #[.map (some pm),.int .u32 t]).run prog w=.ok (.tuple #[]) w'∧IsM w' pm n' (updM M t none)∧(n'+(if (M t).isSome then 1 else 0)=n)∧Fr (λk=>k=pm) w w':=by
 obtain⟨D,h1,h2,h3⟩:=h;obtain⟨w',hrun,hown,hturn⟩:=h1.drop Ux QU (Zf4 t ht) ty;have hsz:=Maps.size_del (k:=.int .u32 t) (h1.tidy Ux);refine⟨w',Maps.size (D.del (.int .u32 t)),hrun,⟨_,Zaj hown,rfl,?_⟩,?_,?_⟩
 ·intro u hu;by_cases e:u=t
  ·subst e;rw[Xt,Maps.has_del_same,Maps.atKey_del_same];exact⟨rfl,rfl⟩
  ·have hne:(Lit.int .u32 (u:Int))≠.int .u32 (t:Int):=by intro e2;have:=(Lit.int.inj e2).2;exact e (by omega)
   rw[XF _ _ _ _ e,Maps.has_del_other hne,Maps.atKey_del_other hne];exact h3 u hu
 ·rw[←h2,←hsz,(h3 t ht).1]
 ·have:=hturn.grown;exact⟨this.os,this.tape,this.output,this.size,λk hk hn=>this.block k hk (λe=>hn (Zv e))⟩
def OsAt (w:World)(base:Nat)(v:Value)(L:List Ord):Prop:=w.ownsRow base 108 8 v L.length (L.flatMap (ordL 0 0))
theorem OsAt.form {l:List Ord}(h:OsAt w base v l):∃ra cap,v=.slice ra l.length cap∧l.length≤cap∧cap≤maxLen∧
  ∀(i:Nat) (x:Ord),l[i]?=some x→∃g,ra=some ⟨g,0,none⟩∧base≤g∧g<w.heap.size∧(∀j,w.frozen? ⟨g,j,none⟩=false)∧w.rangeAt g (i*8) (ordL 0 0 x):=by
 rcases h.2 with⟨h1,h2⟩|⟨g,cap,cur,h1,h2,h3,h4,h5,h6,h7⟩
 ·refine⟨none,0,by rw[h1,h2],by omega,by unfold maxLen;omega,?_⟩;intro i x hx;rw[Zx.1 h2] at hx;simp at hx
 ·refine⟨_,cap,h1,h4,h5,?_⟩;intro i x hx;refine⟨g,rfl,h2,(Ze.1 h3).1,λj=>by simp[World.frozen?,h3],?_⟩;intro j u hu;have hj:j<8:=(Zl.1 hu).1;have:=h.cells (g:=g) (by rw[h1];rfl) (i*8+j) u (Ud _ 8 (λ_=>rfl) l i j x u hx hj hu)
  rwa [Yg,ZN] at this
theorem os_set (l:List Ord)(i j:Nat)(x y:Ord)(u:Value)(hi:l[i]?=some x)(hj:j<8)(hy:ordL 0 0 y=(ordL 0 0 x).set j u):(l.flatMap (ordL 0 0)).set (i*8+j) u=(l.set i y).flatMap (ordL 0 0):=by
 have hlen:∀z:Ord,(ordL 0 0 z).length=8:=λ_=>rfl;induction l generalizing i with
 | nil=>simp at hi
 | cons z l ih=>
  cases i with
  | zero=>
   simp at hi;subst hi;rw[Yk,Nat.zero_mul,ZN,List.set_append_left _ _ (by rw[hlen];omega),←hy];rfl
  | succ i=>
   simp at hi;rw[Yk,Yb _ _ (by rw[hlen];omega),show(i+1)*8+j-(ordL 0 0 z).length=i*8+j by rw[hlen];omega,ih i hi];rfl
theorem OsAt.put {len:Nat}{l:List Ord}(h:OsAt w base (.slice (some ⟨g,0,none⟩) len cap) l)(i j:Nat)(x y:Ord)(u:Value)(hi:l[i]?=some x)(hj:j<8)(hy:ordL 0 0 y=(ordL 0 0 x).set j u):
  OsAt (w.setCell ⟨g,i*8+j,none⟩ u) base (.slice (some ⟨g,0,none⟩) len cap) (l.set i y):=by
 refine⟨by rw[←os_set l i j x y u hi hj hy,Yf,Yf];exact h.1,?_⟩;rcases h.2 with⟨h1,-⟩|⟨g',cap',cur,h1,h2,h3,h4,h5,h6,h7⟩
 ·simp at h1
 ·simp only[ZX,Ys,YB] at h1;obtain⟨⟨rfl,-,-⟩,h1,rfl⟩:=h1;refine .inr ⟨g,cap,cur.setIfInBounds (i*8+j) u,by rw[Yf,h1],h2,Zi w g (i*8+j) _ _ u h3,by rw[Yf];exact h4,h5,by rw[Array.size_setIfInBounds];exact h6,?_⟩;rw[←os_set l i j x y u hi hj hy,Yf,←h7,Array.toList_setIfInBounds,List.take_set]
theorem OsAt.putAll {len:Nat}{l:List Ord}(h:OsAt w base (.slice (some ⟨g,0,none⟩) len cap) l)(i:Nat)(x y:Ord)(hi:l[i]?=some x):
  OsAt (w.setCells g (i*8) (ordL 0 0 y)) base (.slice (some ⟨g,0,none⟩) len cap) (l.set i y):=by
 have hlt:=(Zl.1 hi).1;have hg:∀z,(l.set i z)[i]?=some z:=λz=>by rw[YO,Zg rfl,Zg hlt]
 rw[set8];have a0:=h.put i 0 x x (.int .i64 ((0:Nat):Int)) hi (by omega) rfl;have a1:=a0.put i 1 x x (.int .i64 ((0:Nat):Int)) (hg _) (by omega) rfl;have a2:=a1.put i 2 x {x with ref:=y.ref} (.int .u32 y.ref) (by rw[YJ];exact hg _) (by omega) rfl;have a3:=a2.put i 3 {x with ref:=y.ref} {x with ref:=y.ref,qf:=y.qf} (.int .u32 y.qf) (by simp only[YJ];exact hg _) (by omega) rfl;have a4:=a3.put i 4 {x with ref:=y.ref,qf:=y.qf} {x with ref:=y.ref,qf:=y.qf,qe:=y.qe} (.int .u8 y.qe.toNat) (by simp only[YJ];exact hg _) (by omega) rfl;have a5:=a4.put i 5 {x with ref:=y.ref,qf:=y.qf,qe:=y.qe} {x with ref:=y.ref,qf:=y.qf,qe:=y.qe,qd:=y.qd} (.int .u8 y.qd) (by simp only[YJ];exact hg _) (by omega) rfl;have a6:=a5.put i 6 {x with ref:=y.ref,qf:=y.qf,qe:=y.qe,qd:=y.qd} {x with ref:=y.ref,qf:=y.qf,qe:=y.qe,qd:=y.qd,qc:=y.qc} (.int .u16 y.qc) (by simp only[YJ];exact hg _) (by omega) rfl;have a7:=a6.put i 7 {x with ref:=y.ref,qf:=y.qf,qe:=y.qe,qd:=y.qd,qc:=y.qc} y (.int .u16 y.qa) (by simp only[YJ];exact hg _) (by omega) rfl;simp only[YJ] at a7;exact a7
theorem OsAt.keep {l:List Ord}(h:OsAt w base v l)(hk:∀g,v.ownBlock=some g→w'.heap[g]?=w.heap[g]?):OsAt w' base v l:=YY h hk
structure RbC (w:World)(base r:Nat)(L:List Ord)(v:Value)(pm n:Nat)(M:Nat→Option Nat):Prop where
 blk:w.heap[r]?=some (.cells #[v,.map (some pm)] 65)
 row:OsAt w base v L
 map:IsM w pm n M
 br:base≤r
 bp:base≤pm
 ne:r≠pm
 nr:v.ownBlock≠some r
 np:v.ownBlock≠some pm
theorem RbC.keep {L:List Ord}(h:RbC w base r L v pm n M)(hk:∀k,base≤k→k<w.heap.size→w'.heap[k]?=w.heap[k]?):RbC w' base r L v pm n M:=by have hr:r<w.heap.size:=(Ze.1 h.blk).1;refine⟨(hk r h.br hr).trans h.blk,h.row.keep (λg hg => ?_),h.map.keep (hk pm h.bp h.map.lt),h.br,h.bp,h.ne,h.nr,h.np⟩;have:=Zs h.row g hg;exact hk g this.1 this.2
theorem RbC.alloc {L:List Ord}(h:RbC w base r L v pm n M)(O:Obj):RbC (w.alloc O) base r L v pm n M:=
 h.keep (λk _ hk=>by rw[YX,Zj (by omega)])
theorem RbC.drewN {L:List Ord}(h:RbC w base r L v pm n M)(q:Nat):RbC (w.drewN q) base r L v pm n M:=h.keep (λ_ _ _=>rfl)
theorem RbC.cells {L:List Ord}(h:RbC w base r L v pm n M):w.cell? ⟨r,0,none⟩=some v∧w.cell? ⟨r,1,none⟩=some (.map (some pm))∧w.frozen? ⟨r,0,none⟩=false∧r<w.heap.size:=
 ⟨Zk w r 0 _ _ (0,0) h.blk,Zk w r 1 _ _ (0,0) h.blk,by simp[World.frozen?,h.blk],(Ze.1 h.blk).1⟩
end
section
open Go.RowKit
theorem Za8 {t ty e:TypeId}{i:TypeInfo}{z:Value}{size bytes:Nat}(ht:prog.underlying t=some (.slice e))(hi:prog.info? e=some i)(hz:i.zero=some z)
  (hsize:i.size=size) (hby:i.bytes=bytes) (hzs:z.cells.size=size) (hsz:0<size) {xs:List Value} (hown:w.ownsRow base e size (.slice (some ⟨g,0,none⟩) n cap) n xs)
  {ad:Addr} {m c:Nat} {ys:List Value} (hl:ys.length=m*size) (hy:∀j u,ys[j]?=some u→w.cell? (ad.add j)=some u) (h1:∀u∈ys,u.oneCell'=true)
  (h63:n+m≤maxLen) (hbytes:(n+m)*bytes≤140737488355328) (hbase:base≤w.heap.size):
  ∃v' w',(Builtin.append_ #[t,t] ty #[.slice (some ⟨g,0,none⟩) n cap,.slice (some ad) m c]).run prog w=.ok v' w'∧w'.ownsRow base e size v' (n+m) (xs++ys)∧w.grownBy w' (some g)∧∀j u,xs[j]?=some u→w'.cell? ⟨g,j,none⟩=some u:=by
 obtain⟨v',w',hr,h2,h3,h4,h5⟩:=run_append_own_at (P:=prog) w base t ty e i z size bytes ht hi hz hsize hby hzs hsz _ n xs hown ad m c ys hl hy h1 h63 hbytes hbase;refine⟨v',w',hr,h2,h3,?_⟩;rcases hown.2 with⟨h,-⟩|⟨g',cap',cur,h,hbg,hg,hnc,hcm,hcs,htake⟩
 ·simp at h
 ·simp only[ZX,Ys,YB,and_true,true_and] at h;obtain⟨rfl,rfl⟩:=h;intro j u hu;by_cases hroom:n+m≤cap
  ·have hfit:n*i.size+ys.length≤cur.size:=by rw[hl,hcs,hsize,←Nat.add_mul];exact Nat.mul_le_mul_right _ hroom
   have hr2:=run_append_room (P:=prog) w t ty e i ht hi g n cap cur hg ad m c ys (by rw[hsize];exact hl) hy h1 hroom hfit;rw[hr] at hr2;obtain⟨e1,e2⟩:=Result.ok.inj hr2;have:=h2.cells (g:=g) (by rw[e1];rfl) j u (by rw[Ye (Zl.1 hu).1];exact hu)
   rwa [Yg,ZN] at this
  ·have holds:∀j u,xs[j]?=some u→w.cell? ((⟨g,0,none⟩:Addr).add j)=some u:=hown.cells (g:=g) rfl;have hr2:=run_append_grow (P:=prog) w t ty e i z ht hi hz ⟨g,0,none⟩ n cap xs (by rw[hsize];exact hown.1) holds ad m c ys (by rw[hsize];exact hl) hy (by omega) (by unfold maxLen at h63;omega) (growslice_fits (by omega) (by rw[hby];exact hbytes));rw[hr] at hr2;obtain⟨e1,e2⟩:=Result.ok.inj hr2;have hc:=holds j u hu;rw[Yg,ZN] at hc;rw[←hc,e2];have hgl:g<w.heap.size:=(Ze.1 hg).1;exact YC (a:=⟨g,j,none⟩) (by show(w.drew.alloc _).heap[g]?=_;rw[YX,Zj (by show g≠w.heap.size;omega)];rfl)
end
section
open Go.RowKit
attribute [local go_sem ↓] Go.wp_at_zero Go.wp_at_succ
structure Less (w:World)(base r:Nat)(L:List Ord)(g cap pm n:Nat)(M:Nat→Option Nat)(t p:Nat)(o:Ord):Prop where
 rb:RbC w base r L (.slice (some ⟨g,0,none⟩) L.length cap) pm n M
 M:M t=some p
 o:L[p]?=some o
theorem RbC.less {L:List Ord}(h:RbC w base r L v pm n M){t p:Nat}{o:Ord}(hM:M t=some p)(ho:L[p]?=some o):∃g cap,v=.slice (some ⟨g,0,none⟩) L.length cap∧L.length≤cap∧cap≤maxLen∧Less w base r L g cap pm n M t p o:=by obtain⟨ra,cap,rfl,hc1,hc2,hcs⟩:=h.row.form;obtain⟨g,rfl,-,-,-,hrg⟩:=hcs p o ho;exact⟨g,cap,rfl,hc1,hc2,⟨h,hM,ho⟩⟩
def AppOp (ts:Array TypeId)(ty:TypeId)(args:Array Value):Sem Value:=Builtin.append_ ts ty args
theorem app_op (ts:Array TypeId)(ty:TypeId)(args:Array Value):Builtin.append_ ts ty args=AppOp ts ty args:=rfl
attribute [local go_sem ↓] app_op
end
section
open Go.RowKit
attribute [local go_sem ↓] Go.wp_at_zero Go.wp_at_succ
def RbAt (w:World)(base r:Nat)(L:List Ord):Prop:=∃v pm n M,RbC w base r L v pm n M∧Ix L M∧n≤L.length∧∀o∈L,o.small
theorem RbAt.keep {L:List Ord}(h:RbAt w base r L)(hk:∀k,base≤k→k<w.heap.size→w'.heap[k]?=w.heap[k]?):RbAt w' base r L:=by obtain⟨v,pm,n,M,h1,h2⟩:=h;exact⟨v,pm,n,M,h1.keep hk,h2⟩
theorem RbAt.alloc {L:List Ord}(h:RbAt w base r L)(O:Obj):RbAt (w.alloc O) base r L:=h.keep (λk _ hk=>by rw[YX,Zj (by omega)])
theorem RbAt.drewN {L:List Ord}(h:RbAt w base r L)(q:Nat):RbAt (w.drewN q) base r L:=h.keep (λ_ _ _=>rfl)
theorem RbAt.small {L:List Ord}(h:RbAt w base r L):∀o∈L,o.small:=by obtain⟨v,pm,n,M,-,-,-,h⟩:=h;exact h
theorem Ix.free {L:List Ord}(h:Ix L M){t:Nat}(ht:Xz L t=0):M t=none:=by
 cases hM:M t with
 | none=>rfl
 | some p=>
  obtain⟨o,-,hr,hl⟩:=h.found hM;rw[VD hl] at ht;rw[Xy] at hr;exact absurd ht hr.2
theorem Zbd {α:Type}{l:List α}{i:Nat}{y x:α}(h:x∈l.set i y):x=y∨x∈l:=by
 rcases List.mem_or_eq_of_mem_set h with h|h
 ·exact .inr h
 ·exact .inl h
end
section
open Go.RowKit
attribute [local go_sem ↓] Go.wp_at_zero Go.wp_at_succ
attribute [local go_sem] Qb Za4
theorem UA (m:List UInt8)(i:Nat):at_ m i 4<4294967296:=Zcd m i
theorem XX (w:World)(q:Nat):Below base w (w.drewN q):=YQ (Zm _ _) q
end
section
open Go.Shelf Go.RowKit Go.Lib Go.Sort
attribute [local go_sem ↓] Go.wp_at_zero Go.wp_at_succ
theorem XZ (l:List Ord):(l.flatMap Ord.cells).length=l.length*6:=by
 induction l with
 | nil=>rfl
 | cons x l ih=>
  rw[Yk,Zf,ih,Zu,Nat.add_mul];show 6+_=_;omega
end
section
open Go.RowKit
attribute [local go_sem ↓] Go.wp_at_zero Go.wp_at_succ
theorem rval_any (b o cap:Nat)(l:List UInt8)(w:World)(hl:l.length≤7)(h:Lies w b o l):
  Calls prog 124 #[.slice (some ⟨b,o,none⟩) l.length cap] w λe w'=>e=.returned (.int .i64 (num l 0:Nat))∧w'=w:=by
 go_enter func124,ntmps124;go_wp2
 go_loop [3,4] (λv i=>∃k:Nat,k≤l.length∧i=.int .i64 k∧v=.int .i64 (num (l.take k) 0:Nat)) (λ_ i=>l.length-(intOf i).toNat)
 case atStart=>exact⟨0,Zy _,rfl,rfl⟩
 case round=>
  obtain⟨k,hk,rfl,rfl⟩:=hrel;by_cases hlt:k<l.length
  ·have hb:num (l.take k) 0<281474976710656:=by have hlt:=TF (l.take k) 0;rw[ZD,Nat.min_eq_left hk] at hlt;have:256^k≤256^6:=YL (by omega) (by omega);omega
   have hcell:=h.cell k hlt;have hc:=B_lt (l.getD k 0);have HS:Hid (num (l.take (k+1)) 0=256*num (l.take k) 0+(l.getD k 0).toNat):=by show _=_;rw[Vl l k hlt,VH];rfl
   generalize l.getD k 0=c at *;generalize num (l.take k) 0=m at *;have hn:(m:Int)<281474976710656:=by omega
   go_wp2
   go_round
   case rel=>exact⟨k+1,by omega,by go_num,by rw[HS.o];simp⟩
   case measure=>simp[intOf];omega
  ·go_wp2
   go_ret;exact⟨TM (by rw[Yv (by omega)]),rfl⟩
theorem Zj0 (x o:Ord):(x.qd≠o.qd→Vt x o=decide (x.qd<o.qd))∧(x.qd=o.qd→x.qe.toNat≠o.qe.toNat→Vt x o=decide (x.qe.toNat<o.qe.toNat))∧
  (x.qd=o.qd→x.qe.toNat=o.qe.toNat→x.qe.toNat=66→Vt x o=decide (o.qc≤x.qc))∧(x.qd=o.qd→x.qe.toNat=o.qe.toNat→x.qe.toNat≠66→Vt x o=decide (x.qc≤o.qc)):=by
 have h:=Vb o x;have e:∀p:Prop,[Decidable p]→(p↔¬ltc byB o x=true)→Vt x o=decide p:=by intro p _ hp;unfold Vt;cases hl:ltc byB o x<;>simp[hl] at hp ⊢<;>exact hp
 rw[h] at e;refine⟨λh1=>e _ (by omega),λh1 h2=>e _ (by omega),λh1 h2 h3=>e _ (by omega),λh1 h2 h3=>e _ (by omega)⟩
theorem Zhu (x o:Ord)(w:World):Calls prog 158 #[.agg x.cells.toArray,.agg o.cells.toArray] w λe w'=>e=.returned (.bool (Vt x o))∧Below w.heap.size w w':=by
 obtain⟨v1,v2,v3,v4⟩:=Zj0 x o;have HB:Hid (∀A B:Obj,Below w.heap.size w ((w.alloc A).alloc B)):=λA B=>Below.alloc ((Zm _ w).alloc (Zh _) _) (by rw[Xb];omega) _;unfold Ord.cells;by_cases h1:x.qd=o.qd
 ·have b1:((x.qd:Int)==(o.qd:Int))=true:=by simp[h1]
  have b1':((x.qd:Int) !=(o.qd:Int))=false:=by rw[bne,b1];rfl
  by_cases h2:x.qe.toNat=o.qe.toNat
  ·have b2:((x.qe.toNat:Int)==(o.qe.toNat:Int))=true:=by simp[h2]
   have b2':((x.qe.toNat:Int) !=(o.qe.toNat:Int))=false:=by rw[bne,b2];rfl
   by_cases h3:x.qe.toNat=66
   ·have b3:((x.qe.toNat:Int)==66)=true:=by simp[h3]
    have HV:=Zc (v3 h1 h2 h3);clear v1 v2 v3 v4 h1 h2 h3;go_enter func158,ntmps158;go_wp2_with fail;go_ret;exact⟨by rw[HV.o];simp,HB.o _ _⟩
   ·have b3:((x.qe.toNat:Int)==66)=false:=by rw[Zz];omega
    have HV:=Zc (v4 h1 h2 h3);clear v1 v2 v3 v4 h1 h2 h3;go_enter func158,ntmps158;go_wp2_with fail;go_ret;exact⟨by rw[HV.o];simp,HB.o _ _⟩
  ·have b2:((x.qe.toNat:Int)==(o.qe.toNat:Int))=false:=by rw[Zz];omega
   have b2':((x.qe.toNat:Int) !=(o.qe.toNat:Int))=true:=by rw[bne,b2];rfl
   have HV:=Zc (v2 h1 h2);clear v1 v2 v3 v4 h1 h2;go_enter func158,ntmps158;go_wp2_with fail;go_ret;exact⟨by rw[HV.o];simp,HB.o _ _⟩
 ·have b1:((x.qd:Int)==(o.qd:Int))=false:=by rw[Zz];omega
  have b1':((x.qd:Int) !=(o.qd:Int))=true:=by rw[bne,b1];rfl
  have HV:=Zc (v1 h1);clear v1 v2 v3 v4 h1;go_enter func158,ntmps158;go_wp2_with fail;go_ret;exact⟨by rw[HV.o];simp,HB.o _ _⟩
def RsAt (w:World)(base:Nat)(v:Value)(S:List Ord):Prop:=w.ownsRow base 40 6 v S.length (S.flatMap Ord.cells)
theorem RsAt.form {S:List Ord}(h:RsAt w base v S):∃ra cap,v=.slice ra S.length cap∧S.length≤cap∧cap≤maxLen∧
  ∀(i:Nat) (x:Ord),S[i]?=some x→∃g,ra=some ⟨g,0,none⟩∧base≤g∧g<w.heap.size∧(∀j,w.frozen? ⟨g,j,none⟩=false)∧w.rangeAt g (i*6) x.cells:=by
 rcases h.2 with⟨h1,h2⟩|⟨g,cap,cur,h1,h2,h3,h4,h5,h6,h7⟩
 ·refine⟨none,0,by rw[h1,h2],by omega,by unfold maxLen;omega,?_⟩;intro i x hx;rw[Zx.1 h2] at hx;simp at hx
 ·refine⟨_,cap,h1,h4,h5,?_⟩;intro i x hx;refine⟨g,rfl,h2,(Ze.1 h3).1,λj=>by simp[World.frozen?,h3],?_⟩;intro j u hu;have hj:j<6:=(Zl.1 hu).1;have:=h.cells (g:=g) (by rw[h1];rfl) (i*6+j) u (Ud _ 6 (λ_=>rfl) S i j x u hx hj hu)
  rwa [Yg,ZN] at this
theorem infoRo :(prog.info? 40).map (λi=>(i.zero,i.size,i.bytes))=some (some (.agg #[.int .i64 0,.int .i64 0,.int .u8 0,.int .i64 0,.int .i64 0,.int .i64 0]),6,48):=by kernel_rfl
theorem rd_take {S:List Ord}(h:RsAt w base (.slice (some ⟨g,0,none⟩) n cap) S)(i c:Nat)(hi:i≤S.length):Uo w 6 (.slice (some ⟨g,0,none⟩) i c) i ((S.take i).flatMap Ord.cells):=by
 refine .inr ⟨g,0,c,rfl,by rw[XZ,ZD,Nat.min_eq_left hi],?_⟩;intro j u hu;have e:S.flatMap Ord.cells=(S.take i).flatMap Ord.cells++(S.drop i).flatMap Ord.cells:=by rw[←Yd,Yr]
 have:=h.cells (g:=g) rfl j u (by rw[e,Ye (Zl.1 hu).1];exact hu)
 rwa [Yg] at this
theorem Zjb {S:List Ord}(h:RsAt w base (.slice (some ⟨g,0,none⟩) n cap) S)(i m o c:Nat)(hi:i≤S.length)(hm:m=S.length-i)(ho:m=0∨o=i*6):Uo w 6 (.slice (some ⟨g,o,none⟩) m c) m ((S.drop i).flatMap Ord.cells):=by
 refine .inr ⟨g,o,c,rfl,by rw[XZ,Zt,hm],?_⟩;intro j u hu;have hj:j<((S.drop i).flatMap Ord.cells).length:=(Zl.1 hu).1;rw[XZ,Zt] at hj;have ho':o=i*6:=by
  rcases ho with e|e
  ·omega
  ·exact e
 subst ho';have e:S.flatMap Ord.cells=(S.take i).flatMap Ord.cells++(S.drop i).flatMap Ord.cells:=by rw[←Yd,Yr]
 have e2:((S.take i).flatMap Ord.cells).length=i*6:=by rw[XZ,ZD,Nat.min_eq_left hi]
 have:=h.cells (g:=g) rfl (i*6+j) u (by rw[e,Yx (by omega),e2,Nat.add_sub_cancel_left];exact hu)
 rwa [Yg,ZN] at this
theorem Zb3 {m B:Nat}{xs:List Value}(h:Uo w 6 v m xs)(hB:Below B w w')(hg:∀g,v.ownBlock=some g→g<B):Uo w' 6 v m xs:=by
 rcases h with h|⟨g,o,c,rfl,h1,h2⟩
 ·exact .inl h
 ·exact .inr ⟨g,o,c,rfl,h1,λj u hu=>(hB.cell (p:=⟨g,o+j,none⟩) (hg g rfl)).trans (h2 j u hu)⟩
theorem Vx (l:List Ord):∀u∈l.flatMap Ord.cells,u.oneCell'=true:=by intro u hu;obtain⟨x,-,hx⟩:=List.mem_flatMap.1 hu;exact Vc x u hx
theorem XV (w:World)(base:Nat)(v:Value)(S:List Ord)(i:Nat)(h:RsAt w base v S)(hi:i<S.length)(hn:S.length≤1000000000):
  Calls prog 133 #[v,.int .i64 i] w λe w'=>∃v',e=.returned v'∧RsAt w' w.heap.size v' (S.eraseIdx i)∧Below w.heap.size w w':=by
 obtain⟨ra,cap,rfl,hc1,hc2,hcs⟩:=h.form;obtain⟨g,rfl,-,hgl,-,-⟩:=hcs i _ (Zp hi);have HE:Hid (S.eraseIdx i=S.take i++S.drop (i+1)):=List.eraseIdx_eq_take_drop_succ _ _;have HR1:=Zc (rd_take h i cap (Nat.le_of_lt hi));have HR2:Hid (∀m o c,m=S.length-(i+1)→(m=0∨o=(i+1)*6)→Uo w 6 (.slice (some ⟨g,o,none⟩) m c) m ((S.drop (i+1)).flatMap Ord.cells)):=λm o c h1 h2=>Zjb h (i+1) m o c (by omega) h1 h2;obtain⟨i0,hi0,hz0,hz1,hz2⟩:=info_parts infoRo;have HI:=Zc (Zd hi0 (Zd hz0 (Zd hz1 hz2)));have HTL:Hid ((S.take i).length=i∧(S.drop (i+1)).length=S.length-(i+1)):=⟨by rw[ZD];omega,by rw[Zt]⟩;obtain⟨n,hnn⟩:=Za (S.length);obtain⟨i1,hi1⟩:=Za (i+1);rw[hnn] at hi hn hc1;rw[hi1] at HR2 HTL HE;rw[hnn] at HR2 HTL;generalize (S.take i)=P at *;generalize (S.drop i1)=D at *;clear h hcs hi0 hz0 hz1 hz2;rw[hnn];have j1:(i:Int)≤(cap:Int):=by omega
 have j2:(0:Int)≤(i:Int):=by omega
 have j3:(i1:Int)≤(n:Int):=by omega
 have j4:(n:Int)≤(cap:Int):=by omega
 have j5:(cap:Int)≤9223372036854775807:=by unfold maxLen at hc2;omega
 have j6:IntKind.i64.wrap ((i:Int)+1)=(i1:Int):=by rw[Zq];omega
 have j7:(i:Int)+1=(i1:Int):=by omega
 have HI1:=Zc (Zd hi1 (Zd hi hn));clear hi1 hi hn hnn;by_cases hcap:cap=i1
 ·subst hcap;have hnc:n=cap:=by have:=HI1.o;omega
  subst hnc;go_enter func133,ntmps133;go_wp2_with (first
   | (at_builtin;refine Xc rfl _ _ 29 rfl w.heap.size 40 i0 _ 6 48 XR HI.o.1 HI.o.2.1 HI.o.2.2.1 HI.o.2.2.2 rfl (by decide) (.slice none 0 0) 0 [] rfl (ZO _ _ _ _) (.slice (some ⟨g,0,none⟩) i _) i (P.flatMap Ord.cells) rfl HR1.o (Vx P) (by have:=HI1.o;unfold maxLen;omega) (by have:=HI1.o;omega) (Zh _) ?_;intro rb capb w3 hown3 hg3 hv3;have hB3:Hid (Below w.heap.size w w3):=Zc ((Zm _ w).grown hg3 (Zh _) (λg hg=>(by cases hg)));rw[ZN,Zr] at hown3;replace hown3:=Zc hown3;clear hg3 hv3)
   | (at_builtin;refine Xc rfl _ _ 29 rfl w.heap.size 40 i0 _ 6 48 XR HI.o.1 HI.o.2.1 HI.o.2.2.1 HI.o.2.2.2 rfl (by decide) (.slice rb i capb) i (P.flatMap Ord.cells) rfl hown3.out (.slice (some ⟨g,0,none⟩) 0 0) 0 (D.flatMap Ord.cells) rfl (Zb3 (HR2.o _ _ _ (by omega) (Or.inl rfl)) hB3.out (λg' hg'=>(by cases hg';exact hgl))) (Vx D) (by have:=HI1.o;unfold maxLen;omega) (by have:=HI1.o;omega) hB3.out.size ?_;intro rc capc w4 hown4 hg4 hv4;have hB4:Hid (Below w.heap.size w w4):=Zc (hB3.out.grown hg4 hB3.out.size (λg hg=>(hown3.out.lt g hg).1));replace hown4:=Zc hown4;clear hg4 hv4))
  go_ret;refine⟨_,rfl,?_,hB4.out⟩;show World.ownsRow _ _ _ _ _ _ _;rw[HE.o,Zf,Yd,HTL.o.1,HTL.o.2];have:=hown4.out;rw[YH];exact this
 ·go_enter func133,ntmps133;go_wp2_with (first
   | (at_builtin;refine Xc rfl _ _ 29 rfl w.heap.size 40 i0 _ 6 48 XR HI.o.1 HI.o.2.1 HI.o.2.2.1 HI.o.2.2.2 rfl (by decide) (.slice none 0 0) 0 [] rfl (ZO _ _ _ _) (.slice (some ⟨g,0,none⟩) i _) i (P.flatMap Ord.cells) rfl HR1.o (Vx P) (by have:=HI1.o;unfold maxLen;omega) (by have:=HI1.o;omega) (Zh _) ?_;intro rb capb w3 hown3 hg3 hv3;have hB3:Hid (Below w.heap.size w w3):=Zc ((Zm _ w).grown hg3 (Zh _) (λg hg=>(by cases hg)));rw[ZN,Zr] at hown3;replace hown3:=Zc hown3;clear hg3 hv3)
   | (at_builtin;refine Xc rfl _ _ 29 rfl w.heap.size 40 i0 _ 6 48 XR HI.o.1 HI.o.2.1 HI.o.2.2.1 HI.o.2.2.2 rfl (by decide) (.slice rb i capb) i (P.flatMap Ord.cells) rfl hown3.out (.slice (some ⟨g,i1*6,none⟩) (n-i1) (cap-i1)) (n-i1) (D.flatMap Ord.cells) rfl (Zb3 (HR2.o _ _ _ rfl (Or.inr rfl)) hB3.out (λg' hg'=>(by cases hg';exact hgl))) (Vx D) (by have:=HI1.o;unfold maxLen;omega) (by have:=HI1.o;omega) hB3.out.size ?_;intro rc capc w4 hown4 hg4 hv4;have hB4:Hid (Below w.heap.size w w4):=Zc (hB3.out.grown hg4 hB3.out.size (λg hg=>(hown3.out.lt g hg).1));replace hown4:=Zc hown4;clear hg4 hv4))
  go_ret;refine⟨_,rfl,?_,hB4.out⟩;show World.ownsRow _ _ _ _ _ _ _;rw[HE.o,Zf,Yd,HTL.o.1,HTL.o.2];have:=hown4.out;exact this
end
end Go.Proofs.YtphkchjejbffeaaGreat
