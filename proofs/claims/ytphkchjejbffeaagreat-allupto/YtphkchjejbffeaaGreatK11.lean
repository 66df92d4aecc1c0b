/- JN, JO, JP, JQ -/
import Derived.Test.YtphkchjejbffeaaGreatK10
set_option maxHeartbeats 16000000
set_option maxRecDepth 100000
namespace Go.Proofs.YtphkchjejbffeaaGreat
open Tryz
open Go.RowKit
variable {fl:List Nat}{b:Nat}{od:Nat→Ord}{ps:Nat→UInt8→Nat→List Nat}{k:SK}{st:St}{w:World}
section
open Go.RowKit
attribute [local go_sem ↓] Go.wp_at_zero Go.wp_at_succ
theorem Zgn (n a z:Int)(q:Bool)(hq:decide (a≤n∧n≤z)=q)(w:World):Calls prog 46 #[.int .i64 n,.int .i64 a,.int .i64 z] w λe w'=>e=.returned (.bool q)∧w'=w:=by
 by_cases h1:a≤n
 ·by_cases h2:n≤z
  ·have:q=true:=by rw[←hq];simp[h1,h2]
   subst this;clear hq;go_enter func46,ntmps46;go_wp2_with fail;go_ret;exact⟨rfl,rfl⟩
  ·have:q=false:=by rw[←hq];simp[h2]
   subst this;clear hq;go_enter func46,ntmps46;go_wp2_with fail;go_ret;exact⟨rfl,rfl⟩
 ·have:q=false:=by rw[←hq];simp[h1]
  subst this;clear hq;go_enter func46,ntmps46;go_wp2_with fail;go_ret;exact⟨rfl,rfl⟩
theorem Rel.map {c:BC}(h:Rel w b c k st):w.cell? ⟨b,18,none⟩=some (.map (some c.pm)):=by rw[h.B.cell];exact(c.get h.B.len).2.2.2.2.2.1
theorem Rel.books {c:BC}(h:Rel w b c k st):w.cell? ⟨b,19,none⟩=some (.pointer (some ⟨k.bk,0,none⟩)):=by rw[←h.bk,h.B.cell];exact(c.get h.B.len).2.2.2.2.2.2.1
theorem TG (b:Nat)(c:BC)(k:SK)(st:St)(t:Nat)(w:World)(h:Rel w b c k st)(ht:t<4294967296):
  Calls prog 141 #[.pointer (some ⟨b,0,none⟩),.int .u32 t] w λe w'=>e=.returned (.bool (decide (t∈st.used)))∧w'=w:=by
 have g18:=h.map;obtain⟨M,od,ps,fl,h1,h2,h3⟩:=h.ex;have hl:=h2.lookOk t ht;have HE:Hid ((M t).isSome=decide (t∈st.used)):=by
  show _=_;have:=h3.used t;by_cases e:t∈st.used
  ·simp[e,this.2 e]
  ·have:¬(M t).isSome=true:=λq=>e (this.1 q);simp[e,this]
 generalize (M t).isSome=q at *;clear h h1 h2 h3;go_enter func141,ntmps141;go_wp2_with fail;go_ret;exact⟨by rw[←HE.o];rfl,rfl⟩
theorem Ua (b:Nat)(c:BC)(k:SK)(st:St)(p:Nat)(w:World)(h:Rel w b c k st)(hp:p<65536)(q:Bool)(hq:decide (1≤p∧p≤st.qj)=q):
  Calls prog 142 #[.pointer (some ⟨b,0,none⟩),.int .u16 p] w λe w'=>e=.returned (.bool q)∧w'=w:=by
 have g19:=h.books;obtain⟨M,od,ps,fl,h1,h2,h3⟩:=h.ex;obtain⟨free,fs,ls,bef,aft,h4,h5⟩:=h1.ex;have HK:=Zc h4.K;have wp:IntKind.i64.wrap (p:Int)=(p:Int):=by rw[Zq];omega
 have HE:Hid (decide ((1:Int)≤(p:Int)∧(p:Int)≤((k.kc free st.ql).qj:Int))=q):=by show _=_;rw[←hq,←h3.hL];apply decide_eq_decide.2;show((1:Int)≤(p:Int)∧(p:Int)≤(k.L:Int))↔_;omega
 clear h h1 h2 h3 h4 h5 hq;go_enter func142,ntmps142;go_wp2_with (first
  | (go_at_call 160;refine(Zht k.bk (k.kc free st.ql) w HK.o).mono (Zb ?_))
  | (go_at_call 46;refine(Zgn _ _ _ q HE.o _).mono (Zb ?_)))
 go_ret;exact⟨rfl,rfl⟩
theorem Vq (n:Nat)(w:World)(hn:n<65536)(q:Bool)(hq:decide (1≤n∧n≤9999)=q):
  Calls prog 143 #[.int .u16 n] w λe w'=>e=.returned (.bool q)∧w'=w:=by
 have wp:IntKind.i64.wrap (n:Int)=(n:Int):=by rw[Zq];omega
 have HE:Hid (decide ((1:Int)≤(n:Int)∧(n:Int)≤9999)=q):=by show _=_;rw[←hq];apply decide_eq_decide.2;omega
 clear hq;go_enter func143,ntmps143;go_wp2_with (go_at_call 46;refine(Zgn _ _ _ q HE.o _).mono (Zb ?_))
 go_ret;exact⟨rfl,rfl⟩
theorem BC.setRefs (c:BC)(h:c.bytes.length=13)(n:Nat):c.cells.setIfInBounds 16 (.int .u32 n)={c with qg:=n}.cells∧c.cells.setIfInBounds 17 (.int .u32 n)={c with qi:=n}.cells:=by obtain⟨a1,a2,a3,a4,a5,a6,a7,a8,a9,a10,a11,a12,a13,e⟩:=Up _ h;unfold BC.cells;simp only[e];exact⟨rfl,rfl⟩
theorem BC.setOpn (c:BC)(h:c.bytes.length=13)(o:Bool):c.cells.setIfInBounds 0 (.bool o)={c with opn:=o}.cells:=by obtain⟨a1,a2,a3,a4,a5,a6,a7,a8,a9,a10,a11,a12,a13,e⟩:=Up _ h;unfold BC.cells;simp only[e];rfl
theorem IsB.setRefs {c:BC}(h:IsB w b c)(n:Nat):IsB (w.setCell ⟨b,16,none⟩ (.int .u32 n)) b {c with qg:=n}:=
 ⟨by rw[Zi w b 16 _ _ _ h.blk,(c.setRefs h.len n).1],h.len⟩
theorem IsB.setMats {c:BC}(h:IsB w b c)(n:Nat):IsB (w.setCell ⟨b,17,none⟩ (.int .u32 n)) b {c with qi:=n}:=
 ⟨by rw[Zi w b 17 _ _ _ h.blk,(c.setRefs h.len n).2],h.len⟩
theorem IsB.setOpn {c:BC}(h:IsB w b c)(o:Bool):IsB (w.setCell ⟨b,0,none⟩ (.bool o)) b {c with opn:=o}:=
 ⟨by rw[Zi w b 0 _ _ _ h.blk,c.setOpn h.len o],h.len⟩
theorem Rel.own {w':World}{c c':BC}{st':St}(h:Rel w b c k st)(hB:IsB w' b c')(hf:Fr (λj=>j=b) w w')(e1:c'.pm=c.pm)(e2:c'.bk=c.bk)(e3:c'.va=c.va)(e4:c'.vt=c.vt)
  (s1:st'.ans=st.ans) (s2:st'.tape=st.tape) (s3:c'.time=st'.time) (s4:c'.qg=st'.qg) (s5:c'.qi=st'.qi) (hi:Inv st') (q1:st'.qk=st.qk) (q2:st'.qj=st.qj) (q3:st'.pool=st.pool) (q4:st'.q=st.q) (q5:st'.used=st.used):Rel w' b c' k st'∧Fr (GB b c k) w w'∧(∀j,GB b c' k j→GB b c k j):=by
 have hd:=h.dist;obtain⟨M,od,ps,fl,h1,h2,h3⟩:=h.ex;have h3':=h3.of_st hi q1 q2 q3 q4 q5;have hr:st'.ql=st.ql:=by have a1:=h3.cnt;have a2:=h3'.cnt;rw[q3] at a2;omega
 refine⟨⟨hB,e2.trans h.bk,?_,?_,s3,s4,s5,?_,M,od,ps,fl,?_,?_,h3'⟩,hf.mono (λj _ e=>Or.inl e),?_⟩
 ·rw[e3,s1];exact h.A.keep (λg hg=>hf.block g (Own.lt h.A g hg).2 (λe=>hd.ab (e▸hg)))
 ·rw[e4,s2];exact h.T.keep (λg hg=>hf.block g (Own.lt h.T g hg).2 (λe=>hd.tb (e▸hg)))
 ·exact⟨hd.bF,by rw[e1];exact hd.pb,by rw[e1];exact hd.pF,by rw[e3];exact hd.ab,by rw[e1,e3];exact hd.ap,by rw[e3];exact hd.aF,by rw[e4];exact hd.tb,by rw[e1,e4];exact hd.tp,by rw[e4];exact hd.tF,by rw[e3,e4];exact hd.atb⟩
 ·rw[hr];exact h1.fr hf (λj hj e=>hd.bF (e▸hj))
 ·rw[e1,q5];exact h2.keep (hf.block _ h2.lt hd.pb)
 ·intro j hj;unfold GB at *;rw[e1,e3,e4] at hj;exact hj
end
section
open Go.RowKit
attribute [local go_sem ↓] Go.wp_at_zero Go.wp_at_succ
theorem Fi.usedLen {S L n:Nat}{M:Nat→Option Nat}(h:Fi S L n od ps fl M st):st.used.length≤4294967296:=Zde _ _ h.unod h.ult
def Does (w:World)(b:Nat)(c:BC)(k:SK)(w':World)(st':St):Prop:=∃c',Rel w' b c' k st'∧Stp w b c k w' c'
theorem Qz (b:Nat)(c:BC)(k:SK)(st:St)(t r:Nat)(w:World)(h:Rel w b c k st)(ht:t<4294967296)(hu:t∉st.used)(hr:(st.qg+1)%4294967296=r):
  Calls prog 147 #[.pointer (some ⟨b,0,none⟩),.int .u32 t] w λe w'=>e=.returned (.int .u32 r)∧Does w b c k w' {st with qg:=r,used:=t::st.used}:=by
 have hd:=h.dist;have g16:w.cell? ⟨b,16,none⟩=some (.int .u32 c.qg):=by rw[h.B.cell];exact(c.get h.B.len).2.2.2.1
 have f16:=h.B.frozen 16;have hB1:=h.B.setRefs r;have hF1:Fr (λj=>j=b) w (w.setCell ⟨b,16,none⟩ (.int .u32 r)):=Fr.setCell w ⟨b,16,none⟩ _;have hi1:Inv {st with qg:=r}:=h.inv.of_q rfl rfl rfl rfl (λ_ q=>q) (by rw[←hr];exact YF _ (by decide)) h.inv.qi h.inv.time;obtain⟨hR1,hfr1,hsub1⟩:=h.own (st':={st with qg:=r}) hB1 hF1 rfl rfl rfl rfl rfl rfl h.time rfl h.qi hi1 rfl rfl rfl rfl rfl;have hrb:=h.inv.qg;have w1:IntKind.u32.wrap ((c.qg:Int)+1)=(r:Int):=by rw[IntKind.wrap_u32,h.qg,←hr];omega
 generalize hW:w.setCell ⟨b,16,none⟩ (.int .u32 r)=W at *;obtain⟨M,od,ps,fl,k1,k2,k3⟩:=hR1.ex;have hMt:M t=none:=by
  cases e:M t with
  | none=>rfl
  | some x=>exact absurd ((k3.used t).1 (by rw[e];rfl)) hu
 obtain⟨w2,hrun,k4,k5⟩:=k2.store t 0 ht (by decide) k3.usedLen;rw[hMt] at k4;have k6:=k3.register (st':={st with qg:=r,used:=t::st.used}) (hi1.of_q rfl rfl rfl rfl (λ_ q=>Yw _ q) hi1.qg hi1.qi hi1.time) rfl rfl rfl rfl rfl hu ht;have hr6:({st with qg:=r,used:=t::st.used}:St).ql=({st with qg:=r}:St).ql:=rfl;obtain⟨hR2,hS2⟩:=hR1.turn (st':={st with qg:=r,used:=t::st.used}) (k5.mono (λj _ e=>Or.inr e)) (k1.fr k5 (λj hj e=>hd.pF (e▸hj))) k4 k6 rfl rfl rfl rfl rfl;have g18:W.cell? ⟨b,18,none⟩=some (.map (some c.pm)):=hR1.map;have g2:w2.cell? ⟨b,16,none⟩=some (.int .u32 r):=by rw[hR2.B.cell];exact(BC.get _ hR2.B.len).2.2.2.1
 have HF:Hid (Does w b c k w2 {st with qg:=r,used:=t::st.used}):=⟨_,hR2,(Stp.trans ⟨hfr1,λj hj=>Or.inl (hsub1 j hj),rfl,rfl,rfl⟩ hS2)⟩;clear hR2 hS2 hR1 k1 k2 k3 k4 k5 k6 hfr1 hsub1 hF1 hB1 hi1 h hd hr6;have hrun':(Instr.mapUpdate 62 (.map (some c.pm)) (.int .u32 t) (.int .i64 0)).run prog W=.ok () w2:=hrun;clear hrun;go_enter func147,ntmps147;go_wp2_with fail;go_ret;exact⟨rfl,HF.o⟩
def Holds (w:World)(c:BC)(k:SK)(st:St)(M:Nat→Option Nat)(od:Nat→Ord)(ps:Nat→UInt8→Nat→List Nat)(fl:List Nat):Prop:=
 Bks w k st.ql od ps fl∧IsM w c.pm st.used.length M∧Fi k.S k.L k.n od ps fl M st
section
variable {w w':World} {b:Nat} {c c':BC} {k:SK} {st:St} {M:Nat→Option Nat} {od:Nat→Ord} {ps:Nat→UInt8→Nat→List Nat} {fl:List Nat}
theorem Holds.tellA {l l':List UInt8}(h:Holds w c k st M od ps fl)(hd:Dist b c k)(t:TX w w' b c l')(hc:c'.pm=c.pm):Holds w' c' k (st.say l) M od ps fl:=by obtain⟨v',tB,tO,tn,tat,tf⟩:=t;refine⟨h.1.fr tf (λj hj e=>e.elim (λe=>hd.bF (e▸hj)) (λe=>hd.aF j e hj)),?_,h.2.2.of_st (h.2.2.inv.say l) rfl rfl rfl rfl rfl⟩;rw[hc];exact h.2.1.keep (tf.block _ h.2.1.lt (λe=>e.elim (λe=>hd.pb e) (λe=>hd.ap e)))
theorem Holds.tellT {l l':List UInt8}(h:Holds w c k st M od ps fl)(hd:Dist b c k)(t:Zau w w' b c l')(hc:c'.pm=c.pm):Holds w' c' k (st.put l) M od ps fl:=by obtain⟨v',tB,tO,tn,tat,tf⟩:=t;refine⟨h.1.fr tf (λj hj e=>e.elim (λe=>hd.bF (e▸hj)) (λe=>hd.tF j e hj)),?_,h.2.2.of_st (h.2.2.inv.put l) rfl rfl rfl rfl rfl⟩;rw[hc];exact h.2.1.keep (tf.block _ h.2.1.lt (λe=>e.elim (λe=>hd.pb e) (λe=>hd.tp e)))
theorem Holds.quiet (h:Holds w c k st M od ps fl)(hf:Fr (λ_=>False) w w'):Holds w' c k st M od ps fl:=
 ⟨h.1.fr hf (λ_ _ e=>e),h.2.1.keep (hf.block _ h.2.1.lt (λe=>e)),h.2.2⟩
end
theorem Zgr (a z:Nat)(o:Ord)(w:World):(Instr.field 108 (ordV a z o) 2).run prog w=.ok (.int .u32 o.qf) w:=by unfold Instr.field ordV ordL;simp[go_sem,asAgg]
theorem QQ (k:SK)(w:World)(taken x:Nat)(od:Nat→Ord)(ps:Nat→UInt8→Nat→List Nat)(fl:List Nat)(h:Bks w k taken od ps fl)(hx:x<k.n):
  Calls prog 116 #[.pointer (some ⟨k.bk,0,none⟩),.int .i64 x] w λe w'=>∃a z,e=.returned (ordV a z (od x))∧Hid (Fr (λ_=>False) w w'):=by
 obtain⟨free,fs,ls,bef,aft,h1,h2⟩:=h.ex;have okn:=h.ok.n;refine(Zkv k.bk x (k.kc free taken) bef aft od w h1.K h1.P hx (show k.n≤1000 by omega)).mono ?_;rintro e w' ⟨rfl,hf⟩;exact⟨_,_,rfl,hf⟩
theorem Bks.nodup {taken:Nat}(h:Bks w k taken od ps fl){s:Nat}{d:UInt8}{p:Nat}(hv:VV k.S k.L s d p):(ps s d p).Nodup∧(∀x∈ps s d p,x<k.n∧x≠0)∧∀x∈ps s d p,∀s' d' p',VV k.S k.L s' d' p'→x∈ps s' d' p'→s'=s∧d'=d∧p'=p:=by obtain⟨free,fs,ls,bef,aft,h1,h2⟩:=h.ex;exact⟨(h2.line _ _ _ hv).nodup,λx hx=>⟨h2.lt _ _ _ hv x hx,h2.ne0 hv hx⟩,λx hx s' d' p' hv' hx'=>h2.dis _ _ _ _ _ _ hv hv' x hx hx'⟩
theorem VT (b:Nat)(c:BC)(k:SK)(st:St)(M:Nat→Option Nat)(od:Nat→Ord)(ps:Nat→UInt8→Nat→List Nat)(fl:List Nat)(x n:Nat)(f:Ord)(w:World)(h:Rel w b c k st)(hh:Holds w c k st M od ps fl)(hf:od x=f)(hv:VV k.S k.L f.qd f.qe f.qc)(hx:x∈ps f.qd f.qe f.qc)(hn:n≤f.qa):
  Calls prog 121 #[.pointer (some ⟨b,0,none⟩),.int .i64 x,.int .u16 n] w λe w'=>e=.returned (.tuple #[])∧Does w b c k w' (st.upd f.qd f.qe f.qc (redO f.qf n)):=by
 obtain⟨j1,j2,j3⟩:=hh;obtain⟨nd,lt,dis⟩:=j1.nodup hv;have hxn:=(lt x hx).1;have hxd:=dis x hx;have g19:=h.books;have g18:=h.map;have hd:=h.dist;have hfit:=j3.fits hv hx;rw[hf] at hfit;have hmost:=hfit.most;have htok:=hfit.qf;obtain⟨a,bb,hab⟩:=YV hx;have hcut:=j3.cut hv hab nd;rw[hf] at hcut;have hi:=h.inv.red f.qd f.qe f.qc f.qf n (j3.valid hv);have hq:st.q f.qd f.qe f.qc=a.map od++f::bb.map od:=by rw[j3.q _ _ _ hv,hab,ZH,ZV,hf]
 have hred:=Zcz f.qf n (a.map od) f (bb.map od) hcut.1 rfl;have HO:=Zc (QQ k w st.ql x od ps fl j1 hxn);have hpmb:=h.dist.pb;have hblt:=h.B.lt;have HR:=Zc h;have HJ:=Zc (Zd j1 (Zd j2 j3));by_cases hlt:n<f.qa
 ·obtain⟨v,hvv⟩:∃v,n+v=f.qa:=⟨f.qa-n,by omega⟩;have hv0:v≠0:=by omega
  have b0:((v:Int)==0)=false:=by simp;omega
  rw[Zj (by omega),←hq] at hred;have e3:({f with qa:=f.qa-n}:Ord)={od x with qa:=v}:=by rw[hf];congr 1;omega
  have HL:Hid (Fi k.S k.L k.n (updN od x {od x with qa:=v}) ps fl M (st.upd f.qd f.qe f.qc (redO f.qf n))):=by refine j3.less hv hab nd hxd {od x with qa:=v} rfl (redO f.qf n) ?_ hi;rw[hred,e3]
  have hres:(st.upd f.qd f.qe f.qc (redO f.qf n)).ql=st.ql:=by have a1:=HL.o.cnt;have a2:=j3.cnt;have a3:(st.upd f.qd f.qe f.qc (redO f.qf n)).pool=st.pool:=rfl;omega
  have HRES:=Zc hres;clear hred e3 hq hi hres h j1 j2 j3 nd lt dis hxd hab hcut hfit hn;go_enter func121,ntmps121;go_wp2_with (first
   | (go_at_call 116;refine HO.o.mono ?_;rintro e w1 ⟨aa,zz,rfl,hf1⟩;have g19b:=hf1.out.cell g19 (λe=>e);have hft:=Zgr aa zz (od x) w1;simp only[ordV,ordL,hf] at hft ⊢)
   | (go_at_call 157;refine(Zh9 k w1 st.ql x n v od ps fl (HJ.o.1.fr hf1.out (λ_ _ e=>e)) hxn (by rw[hf];omega) hv0 (by omega)).mono ?_;rintro e w2 ⟨rfl,hb2,hf2⟩))
  go_end0
  refine⟨rfl,_,(HR.o.turn (st':=st.upd f.qd f.qe f.qc (redO f.qf n)) ((hf1.out.mono (λ_ _ e=>e.elim)).trans hf2 (λ_ _ e=>Or.inl e)) (by rw[HRES.o];exact hb2) ?_ HL.o rfl rfl rfl rfl rfl)⟩;exact HJ.o.2.1.keep ((hf2.block _ (Zn HJ.o.2.1.lt hf1.out.size) hd.pF).trans (hf1.out.block _ HJ.o.2.1.lt (λe=>e)))
 ·have hne:n=f.qa:=by omega
  subst hne;rw[Zg (by omega),←hq,←ZH] at hred;obtain⟨tk,htk⟩:∃tk,tk+1=st.ql:=by have a1:=UK st f.qd f.qe f.qc (j3.valid hv) (redO f.qf f.qa);rw[hred,hq] at a1;simp only[Yl,Zf,Zu] at a1;exact⟨st.ql-1,by omega⟩
  have HL:Hid (Fi k.S k.L k.n (updN od x Xr) (updQ ps f.qd f.qe f.qc (a++bb)) (x::fl) (updM M f.qf (some 0)) (st.upd f.qd f.qe f.qc (redO f.qf f.qa))):=by have:=j3.gone hv hab nd hxd Xr (redO f.qf f.qa) hred hi;rw[hf] at this;exact this
  have hres:(st.upd f.qd f.qe f.qc (redO f.qf f.qa)).ql=tk:=by have a1:=HL.o.cnt;have a2:=j3.cnt;have a3:(st.upd f.qd f.qe f.qc (redO f.qf f.qa)).pool=st.pool:=rfl;rw[Zu] at a1;omega
  have HRES:=Zc hres;have hmsome:(M f.qf).isSome=true:=by have:=j3.mat _ _ _ hv x hx;rw[hf] at this;rw[this];rfl
  have HMS:=Zc hmsome;have HTK:=Zc htk;have htl:st.ql≤100:=by have a1:=j3.cnt;have a2:=h.inv.pool;omega
  have HAB:=Zc hab;have huse:=j3.usedLen;clear hred hq hi hres h j1 j2 j3 nd lt dis hxd hab hcut hfit hn hmsome htk hlt;go_enter func121,ntmps121;go_wp2_with (first
   | (go_at_call 116;refine HO.o.mono ?_;rintro e w1 ⟨aa,zz,rfl,hf1⟩;have g19b:=hf1.out.cell g19 (λe=>e);have g18b:=hf1.out.cell g18 (λe=>e);have hft:=Zgr aa zz (od x) w1;simp only[ordV,ordL,hf] at hft ⊢)
   | (go_at_call 157;refine(Zh7 k w1 st.ql tk x f.qa od ps fl a bb (HJ.o.1.fr hf1.out (λ_ _ e=>e)) (by rw[hf]) (by omega) (by rw[hf];exact hv) (by rw[hf];exact HAB.o) htl HTK.o).mono ?_;rintro e w2 ⟨rfl,hb2,hf2⟩;have g18c:=hf2.cell g18b hd.bF;rw[hf] at hb2;have hM2:IsM w2 c.pm st.used.length M:=HJ.o.2.1.keep ((hf2.block _ (Zn HJ.o.2.1.lt hf1.out.size) hd.pF).trans (hf1.out.block _ HJ.o.2.1.lt (λe=>e)));obtain⟨w3,hrun,hM3,hf3⟩:=hM2.store f.qf 0 htok (by decide) huse;rw[Zg HMS.o] at hM3;replace hb2:=Zc hb2;replace hf2:=Zc hf2;replace hM3:=Zc hM3;replace hf3:=Zc hf3;clear hM2;rw[←hf] at hrun;replace hrun:(Instr.mapUpdate 62 (.map (some c.pm)) (.int .u32 (od x).qf) (.int .i64 0)).run prog w2=.ok () w3:=hrun;rw[hf] at hrun))
  go_end0
  have F1:Fr (λj=>k.F j∨j=c.pm) w w1:=hf1.out.mono (λ_ _ e=>e.elim);have F2:Fr (λj=>k.F j∨j=c.pm) w1 w2:=hf2.out.mono (λ_ _ e=>Or.inl e);have F3:Fr (λj=>k.F j∨j=c.pm) w2 w3:=hf3.out.mono (λ_ _ e=>Or.inr e);have F4:Fr (λj=>k.F j∨j=c.pm) w w3:=F1.trans (F2.trans F3 (λ_ _ e=>e)) (λ_ _ e=>e);have B4:Bks w3 k tk (updN od x Xr) (updQ ps f.qd f.qe f.qc (a++bb)) (x::fl):=hb2.out.fr hf3.out (λj hj e=>hd.pF (e▸hj));rw[←HRES.o] at B4;have fin:=HR.o.turn (w':=w3) (st':=st.upd f.qd f.qe f.qc (redO f.qf f.qa)) F4 B4 hM3.out HL.o rfl rfl rfl rfl rfl;exact⟨rfl,c,fin⟩
end
section
open Go.RowKit
attribute [local go_sem ↓] Go.wp_at_zero Go.wp_at_succ
def poOf (a z:Nat)(o:Ord):PO:={before:=a,after:=z,ref:=o.ref,qf:=o.qf,qe:=o.qe,qd:=o.qd,qc:=o.qc,qa:=o.qa}
theorem Rel.tm {c:BC}(h:Rel w b c k st):c.time<18446744073709551616∧c.qi<4294967296:=by have h1:=h.inv.time;have h2:=h.inv.qi;rw[h.time,h.qi];omega
theorem Zdu (b:Nat)(c:BC)(k:SK)(st:St)(o:Ord)(w:World)(h:Rel w b c k st)(hv:Valid st o.qd o.qe o.qc)(h1:1≤o.qa)(h2:o.qa≤9999)(h3:o.ref<4294967296)(h4:o.qf<4294967296)
  (hu:o.qf∈st.used) (hn:∀x∈st.all,x.qf≠o.qf) (hr:st.ql<st.pool) (hx:st.meets o=none) (hroom:st.tape.length≤70368744300000):
  Calls prog 113 #[.pointer (some ⟨b,0,none⟩),ordV 0 0 o] w λe w'=>e=.returned (.tuple #[])∧Does w b c k w' (st.rest o):=by
 have hd:=h.dist;obtain⟨M,od,ps,fl,j1,j2,j3⟩:=h.ex;have hVV:=j3.vv hv;have hMt:M o.qf=some 0:=by
  have:=(j3.used o.qf).2 hu;obtain⟨x,e⟩:=Option.isSome_iff_exists.1 this;rw[e];by_cases e0:x=0
  ·rw[e0]
  ·obtain⟨s,d,p,v1,v2,v3⟩:=j3.mto _ _ e e0;exact absurd v3 (hn _ (j3.in_all v1 v2))
 obtain⟨x,fl',rfl⟩:∃x fl',fl=x::fl':=by
  have:=j3.cnt;rcases fl with _|⟨x,fl'⟩
  ·simp at this;omega
  ·exact⟨x,fl',rfl⟩
 have hinv:Inv (st.upd o.qd o.qe o.qc (·++[o])):=by
  refine h.inv.push o hv h1 h2 h3 h4 hu hn hr ?_;intro p hne;have hvp:=h.inv.ok _ _ _ hne;obtain⟨r,hr1,hr2⟩:=Ug st (other o.qe) p hvp.2.2.1 hvp.2.2.2;by_cases hc:reaches o p=true
  ·rw[←hr2] at hc hne;exact absurd (Uh hx r hr1 hc) hne
  ·simpa using hc
 have hfresh:x≠0∧(∀s d p,VV k.S k.L s d p→x∉ps s d p)∧(∀s d p,VV k.S k.L s d p→∀y∈ps s d p,y≠0)∧x<k.n:=by obtain⟨free,fs,ls,bef,aft,l1,l2⟩:=j1.ex;obtain⟨t1,t2,t3,t4,t5⟩:=l2.take;exact⟨t4,t2.1,λs d p hv y hy=>l2.ne0 hv hy,t5⟩
 have HL:Hid (Fi k.S k.L k.n (updN od x o) (updQ ps o.qd o.qe o.qc (ps o.qd o.qe o.qc++[x])) fl' (updM M o.qf (some x)) (st.upd o.qd o.qe o.qc (·++[o]))):=j3.push hfresh.1 hfresh.2.1 hfresh.2.2.1 o hVV hMt hinv;have hres:(st.upd o.qd o.qe o.qc (·++[o])).ql=st.ql+1:=by have a1:=HL.o.cnt;have a2:=j3.cnt;have a3:(st.upd o.qd o.qe o.qc (·++[o])).pool=st.pool:=rfl;rw[Zu] at a2;omega
 have HRES:=Zc hres;have htl:st.ql≤100:=by have:=h.inv.pool;omega
 have huse:=j3.usedLen;have hxlt:x<4294967296:=by have:=h.ok.n;omega
 have g18:=h.map;have g19:=h.books;have hblt:=h.B.lt;have hgb:∀j,GB b c k j→j<w.heap.size:=h.lt;have hbkl:k.bk<w.heap.size:=j1.lt _ (Or.inl rfl);have HR:=Zc h;have HJ:=Zc (Zd j1 (Zd j2 j3));have HM:=Zc hMt;have HVV:=Zc hVV;clear h j1 j2 j3 hinv hfresh hMt hVV hv hn hu hx hres;unfold ordV ordL;go_enter func113,ntmps113;go_wp2_with fail;generalize hOb:Obj.cells _ 108=Ob;have hbx:Box (w.alloc Ob) w.heap.size 0 0 o:=Box.of (t:=108) (by rw[YX,Zg rfl,←hOb];rfl);have hF0:Fr (λ_=>False) w (w.alloc Ob):=Fr.alloc _ w Ob;clear hOb;generalize w.alloc Ob=W at hbx hF0 ⊢;have HB0:Hid (Bks W k st.ql od ps (x::fl')):=HJ.o.1.fr hF0 (λ_ _ e=>e);have HM0:Hid (IsM W c.pm st.used.length M):=HJ.o.2.1.keep (hF0.block _ HJ.o.2.1.lt (λe=>e));have h18:=hF0.cell g18 (λe=>e);have h19:=hF0.cell g19 (λe=>e);obtain⟨q0,q1,q2,q3,q4,q5,q6,q7⟩:=hbx;have HF0:=Zc hF0;have hgF:¬k.F w.heap.size:=λe=>by have:=hgb _ (Or.inr (Or.inr (Or.inl e)));omega
 have hgp:w.heap.size≠c.pm:=λe=>by have:=hgb c.pm (Or.inr (Or.inl rfl));omega
 have hbp:b≠c.pm:=Ne.symm hd.pb;clear hF0 g18 g19;go_region_held3 (λw'=>(w'.cell? ⟨w.heap.size,0,none⟩=some (.int .i64 0)∧w'.cell? ⟨w.heap.size,1,none⟩=some (.int .i64 0)∧w'.cell? ⟨w.heap.size,2,none⟩=some (.int .u32 o.ref)∧w'.cell? ⟨w.heap.size,3,none⟩=some (.int .u32 o.qf)∧w'.cell? ⟨w.heap.size,4,none⟩=some (.int .u8 o.qe.toNat)∧w'.cell? ⟨w.heap.size,5,none⟩=some (.int .u8 o.qd)∧w'.cell? ⟨w.heap.size,6,none⟩=some (.int .u16 o.qc)∧w'.cell? ⟨w.heap.size,7,none⟩=some (.int .u16 o.qa))∧w'.cell? ⟨b,18,none⟩=some (.map (some c.pm))∧w'.cell? ⟨b,19,none⟩=some (.pointer (some ⟨k.bk,0,none⟩))) (first|exact m2|exact m1|go_keep)
  ((go_at_call 149;refine(rest_any k W.drew st.ql x o od ps fl' (HB0.o.keep (λ_ _=>rfl)) HVV.o htl).mono ?_;rintro e w2 ⟨rfl,hb2,hf2⟩;have m1:=Zd ((Box.fr (w:=W.drew) ⟨q0,q1,q2,q3,q4,q5,q6,q7⟩ hf2 hgF).all) (Zd (hf2.cell (w:=W.drew) h18 hd.bF) (hf2.cell (w:=W.drew) h19 hd.bF));have hM2:IsM w2 c.pm st.used.length M:=HM0.o.keep (hf2.block (w:=W.drew) _ HM0.o.lt hd.pF);obtain⟨w3,hrun,hM3,hf3⟩:=hM2.store o.qf x h4 hxlt huse;rw[Zg (by rw[HM.o];rfl)] at hM3;have m2:=Zd (((Box.fr (w:=W.drew) ⟨q0,q1,q2,q3,q4,q5,q6,q7⟩ hf2 hgF).fr hf3 hgp).all) (Zd (hf3.cell (hf2.cell (w:=W.drew) h18 hd.bF) hbp) (hf3.cell (hf2.cell (w:=W.drew) h19 hd.bF) hbp));replace hb2:=Zc hb2;replace hf2:=Zc hf2;replace hM3:=Zc hM3;replace hf3:=Zc hf3;clear hM2))
 have F1:Fr (λj=>k.F j∨j=c.pm) w W:=HF0.o.mono (λ_ _ e=>e.elim);have F2:Fr (λj=>k.F j∨j=c.pm) W w2:=(Fr.drew _ W).trans (hf2.out.mono (G:=λj=>k.F j∨j=c.pm) (λ_ _ e=>Or.inl e)) (λ_ _ e=>e);have F3:Fr (λj=>k.F j∨j=c.pm) w2 w3:=hf3.out.mono (λ_ _ e=>Or.inr e);have F4:Fr (λj=>k.F j∨j=c.pm) w w3:=F1.trans (F2.trans F3 (λ_ _ e=>e)) (λ_ _ e=>e);have B4:Bks w3 k (st.ql+1) (updN od x o) (updQ ps o.qd o.qe o.qc (ps o.qd o.qe o.qc++[x])) fl':=hb2.out.fr hf3.out (λj hj e=>hd.pF (e▸hj));rw[←HRES.o] at B4;have fin:=HR.o.turn (w':=w3) (st':=st.upd o.qd o.qe o.qc (·++[o])) F4 B4 hM3.out HL.o rfl rfl rfl rfl rfl;have HFIN:=Zc fin;have hok:(poOf 0 0 o).ok:=⟨h3,h4,by show o.qd<256;have a1:=HVV.o.1;have a2:=HR.o.ok.S;omega,by show o.qc<65536;have a1:=HVV.o.2.2.2;have a2:=HR.o.ok.L;omega,by show o.qa<65536;omega⟩;have HT:=Zc (Zc3 b c st.tape (poOf 0 0 o) w3 fin.1.B fin.1.tm.1 fin.1.tm.2 fin.1.T fin.1.dist.tb (by omega) hok);obtain⟨⟨r0,r1,r2,r3,r4,r5,r6,r7⟩,r8,r9⟩:=m2;clear F1 F2 F3 F4 B4 fin hok m1 hb2 hf2 hM3 hf3 hrun q0 q1 q2 q3 q4 q5 q6 q7 h18 h19;go_wp2_with (go_at_call 150;refine HT.o.mono ?_;rintro e w4 ⟨rfl,ht4⟩)
 go_end0
 have htm:=HFIN.o.1.time;obtain⟨c',hR',hS',-,-⟩:=HFIN.o.1.tellT (l:=st.head 97++enc o.ref 4++[o.qe,UInt8.ofNat o.qd]++enc o.qa 2++enc o.qc 2) ht4 (by show st.tape++97::enc c.time 6++enc o.ref 4++[o.qe]++[UInt8.ofNat o.qd]++enc o.qa 2++enc o.qc 2=st.tape++(st.head 97++enc o.ref 4++[o.qe,UInt8.ofNat o.qd]++enc o.qa 2++enc o.qc 2);have htm':c.time=st.time:=htm;unfold St.head;rw[htm'];simp)
 exact⟨rfl,c',hR',HFIN.o.2.trans hS'⟩
theorem Holds.own {w':World}{c c':BC}{st':St}{M:Nat→Option Nat}(h:Holds w c k st M od ps fl)(hd:Dist b c k)(hf:Fr (λj=>j=b) w w')(e1:c'.pm=c.pm)(hi:Inv st')(q1:st'.qk=st.qk)(q2:st'.qj=st.qj)(q3:st'.pool=st.pool)(q4:st'.q=st.q)(q5:st'.used=st.used):Holds w' c' k st' M od ps fl:=by
 have h3':=h.2.2.of_st hi q1 q2 q3 q4 q5;have hr:st'.ql=st.ql:=by have a1:=h.2.2.cnt;have a2:=h3'.cnt;rw[q3] at a2;omega
 refine⟨?_,?_,h3'⟩
 ·rw[hr];exact h.1.fr hf (λj hj e=>hd.bF (e▸hj))
 ·rw[e1,q5];exact h.2.1.keep (hf.block _ h.2.1.lt hd.pb)
theorem Zfh (b:Nat)(c:BC)(k:SK)(st:St)(M:Nat→Option Nat)(od:Nat→Ord)(ps:Nat→UInt8→Nat→List Nat)(fl:List Nat)(x a z n:Nat)(o f:Ord)(w:World)(h:Rel w b c k st)(hh:Holds w c k st M od ps fl)(hf:od x=f)(hv:VV k.S k.L f.qd f.qe f.qc)(hx:x∈ps f.qd f.qe f.qc)
  (hn:min o.qa f.qa=n) (ho:o.qf<4294967296) (hos:o.qa≤9999) (hra:st.ans.length≤70368744300000) (hrt:st.tape.length≤70368744300000):
  Calls prog 146 #[.pointer (some ⟨b,0,none⟩),ordV a z o,.int .i64 x] w λe w'=>e=.returned (.int .u16 n)∧Does w b c k w' (st.execute o f n):=by
 have hd:=h.dist;obtain⟨j1,j2,j3⟩:=id hh;obtain⟨nd,lt,dis⟩:=j1.nodup hv;have hxn:=(lt x hx).1;have hfit:=j3.fits hv hx;rw[hf] at hfit;have hmost:=hfit.most;have htok:=hfit.qf;have href:=hfit.ref;have hpr:f.qc<65536:=by have a1:=hv.2.2.2;have a2:=h.ok.L;omega
 have g19:=h.books;have hblt:=h.B.lt;have hgb:∀j,GB b c k j→j<w.heap.size:=h.lt;have HR:=Zc h;have HH:=Zc hh;have HV:=Zc hv;have HX:=Zc hx;have HN:Hid (min o.qa f.qa=n):=hn;have hnm:(if (o.qa:Int)≤(f.qa:Int) then (o.qa:Int) else (f.qa:Int))=(n:Int):=by rw[←hn];split<;>omega
 clear h hh hv hx j1 j2 j3 nd lt dis hfit hn;unfold ordV ordL;go_enter func146,ntmps146;go_wp2_with fail;generalize hOb:Obj.cells _ 108=Ob;have hbx:Box (w.alloc Ob) w.heap.size a z o:=Box.of (t:=108) (by rw[YX,Zg rfl,←hOb];rfl);have hF0:Fr (λ_=>False) w (w.alloc Ob):=Fr.alloc _ w Ob;clear hOb;generalize w.alloc Ob=W at hbx hF0 ⊢;refine(QQ k W st.ql x od ps fl (HH.o.1.fr hF0 (λ_ _ e=>e)) hxn).mono ?_;rintro e w1 ⟨aa,zz,rfl,hf1⟩;have hF1:Fr (λ_=>False) w w1:=hF0.trans hf1.out (λ_ _ e=>e);have hbx1:=hbx.fr hf1.out (λe=>e);have hR1:=HR.o.quiet hF1;have p3:=hbx1.c3;have p7:=hbx1.c7;have hgl:w.heap.size<w1.heap.size:=ZU w1 _ p3;have hbl1:=hR1.B.lt;have g17:w1.cell? ⟨b,17,none⟩=some (.int .u32 c.qi):=by rw[hR1.B.cell];exact(c.get hR1.B.len).2.2.2.2.1
 have f17:=hR1.B.frozen 17;obtain⟨m,hm⟩:=Za ((st.qi+1)%4294967296);have hmb:=HR.o.inv.qi;have wm:IntKind.u32.wrap ((c.qi:Int)+1)=(m:Int):=by rw[IntKind.wrap_u32,HR.o.qi,←hm];omega
 have HF1:=Zc hF1;have HR1:=Zc hR1;have HBX1:=Zc hbx1;have HM:=Zc hm;clear hF0 hbx hf1 hF1 hR1 hbx1 hm g19;simp only[ordV,ordL,hf];by_cases hmin:o.qa≤f.qa
 ·have hmin2:(o.qa:Int)≤(f.qa:Int):=by omega
  have hmn:=HN.o;clear hnm;obtain rfl:n=o.qa:=by omega
  go_wp2_with fail;generalize hOb2:Obj.cells _ 108=Ob2;have hW2:Fr (λj=>j=b) w1 (w1.setCell ⟨b,17,none⟩ (.int .u32 m)):=Fr.setCell w1 ⟨b,17,none⟩ _;have hi2:Inv {st with qi:=m}:=HR.o.inv.of_q rfl rfl rfl rfl (λ_ q=>q) HR.o.inv.qg (by show m<_;rw[←HM.o];exact YF _ (by decide)) HR.o.inv.time;have hown:=HR1.o.own (c':={c with qi:=m}) (st':={st with qi:=m}) (HR1.o.B.setMats m) hW2 rfl rfl rfl rfl rfl rfl HR1.o.time HR1.o.qg rfl hi2 rfl rfl rfl rfl rfl;have hH2:Holds (w1.setCell ⟨b,17,none⟩ (.int .u32 m)) {c with qi:=m} k {st with qi:=m} M od ps fl:=(HH.o.quiet HF1.o).own hd hW2 rfl hi2 rfl rfl rfl rfl rfl;have hA2:Fr (λ_=>False) (w1.setCell ⟨b,17,none⟩ (.int .u32 m)) ((w1.setCell ⟨b,17,none⟩ (.int .u32 m)).alloc Ob2):=Fr.alloc _ _ _;have hs1:(w1.setCell ⟨b,17,none⟩ (.int .u32 m)).heap.size=w1.heap.size:=by simp[World.setCell]
  have hbf:Box ((w1.setCell ⟨b,17,none⟩ (.int .u32 m)).alloc Ob2) w1.heap.size aa zz f:=Box.of (t:=108) (by rw[YX,Zg hs1.symm,←hOb2];rfl);have hbo:Box ((w1.setCell ⟨b,17,none⟩ (.int .u32 m)).alloc Ob2) w.heap.size a z o:=(HBX1.o.fr hW2 (λe=>by have e:w.heap.size=b:=e;omega)).fr hA2 (λe=>e);have hS2:Stp w b c k ((w1.setCell ⟨b,17,none⟩ (.int .u32 m)).alloc Ob2) {c with qi:=m}:=(Stp.quiet HF1.o).trans (Stp.trans (c1:={c with qi:=m}) ⟨hown.2.1,λj hj=>Or.inl (hown.2.2 j hj),rfl,rfl,rfl⟩ (Stp.quiet hA2));have hR2:=hown.1.quiet hA2;have hH3:=hH2.quiet hA2;have hgl2:w1.heap.size<((w1.setCell ⟨b,17,none⟩ (.int .u32 m)).alloc Ob2).heap.size:=by rw[Xb,hs1];omega
  clear hOb2 hW2 hown hH2 hA2 hs1 hi2 g17 f17 p3 p7;generalize ((w1.setCell ⟨b,17,none⟩ (.int .u32 m)).alloc Ob2)=V at hbf hbo hS2 hR2 hH3 hgl2 ⊢;obtain⟨c2,hc2⟩:∃c2,c2=({c with qi:=m}:BC):=⟨_,rfl⟩;have hpm2:c2.pm=c.pm:=by rw[hc2]
  have hgb2:∀j,GB b c2 k j→j<w.heap.size:=by rw[hc2];exact hgb
  rw[←hc2] at hS2 hR2 hH3;clear hc2;have ng0:¬GB b c2 k w.heap.size:=λe=>by have:=hgb2 _ e;omega
  have ng1:¬GB b c2 k w1.heap.size:=λe=>by have:=hgb2 _ e;omega
  have htm2:c2.time=st.time:=hR2.time;have hmt2:c2.qi=m:=hR2.qi;refine(VA b c2 st.ans f.qf o.qa f.qc V hR2.B hR2.tm.1 hR2.tm.2 hR2.A hR2.dist.ab (by omega) htok (by omega) hpr).mono ?_;rintro e w3 ⟨rfl,ht3⟩;obtain⟨c3,hR3,hS3,hp3,-⟩:=hR2.tellA (l:=({st with qi:=m}:St).fill f.qf o.qa f.qc m) ht3 (by rw[htm2,hmt2];unfold St.fill St.head;simp)
  have hH4:=hH3.tellA (l:=({st with qi:=m}:St).fill f.qf o.qa f.qc m) (c':=c3) hR2.dist ht3 hp3;have u3:=hS3.fr.cell hbo.c3 ng0;have u6:=hS3.fr.cell hbf.c6 ng1;have HS2:=Zc hS2;have HS3:=Zc hS3;have HR3:=Zc hR3;have HH4:=Zc hH4;have HBF:=Zc hbf;clear hS2 hS3 hR2 hR3 hH3 hH4 ht3 hbf hbo;go_wp2_with fail;have htm3:c3.time=st.time:=HR3.o.time;have hmt3:c3.qi=m:=HR3.o.qi;refine(VA b c3 _ o.qf o.qa f.qc w3 HR3.o.B HR3.o.tm.1 HR3.o.tm.2 HR3.o.A HR3.o.dist.ab (by simp[St.say,St.fill,St.head,YZ];omega) ho (by omega) hpr).mono ?_;rintro e w4 ⟨rfl,ht4⟩;obtain⟨c4,hR4,hS4,hp4,-⟩:=HR3.o.tellA (l:=({st with qi:=m}:St).fill o.qf o.qa f.qc m) ht4 (by rw[htm3,hmt3];unfold St.fill St.head;simp)
  have hH5:=HH4.o.tellA (l:=({st with qi:=m}:St).fill o.qf o.qa f.qc m) (c':=c4) HR3.o.dist ht4 hp4;have hS24:=HS3.o.trans hS4;have v2:=hS24.fr.cell HBF.o.c2 ng1;have HS24:=Zc hS24;have HR4:=Zc hR4;have HH5:=Zc hH5;clear hS24 hS4 hR4 hH5 ht4 u3 u6;go_wp2_with fail;have htm4:c4.time=st.time:=HR4.o.time;have hmt4:c4.qi=m:=HR4.o.qi;refine(UT b c4 st.tape f.ref o.qa w4 HR4.o.B HR4.o.tm.1 HR4.o.tm.2 HR4.o.T HR4.o.dist.tb (by omega) href (by omega)).mono ?_;rintro e w5 ⟨rfl,ht5⟩;obtain⟨c5,hR5,hS5,hp5,-⟩:=HR4.o.tellT (l:=st.head 101++enc f.ref 4++enc o.qa 2++enc m 4) ht5 (by rw[htm4,hmt4];show st.tape++_++_++_++_=st.tape++_;unfold St.head;simp)
  have hH6:=HH5.o.tellT (l:=st.head 101++enc f.ref 4++enc o.qa 2++enc m 4) (c':=c5) HR4.o.dist ht5 hp5;have HS25:=Zc (HS24.o.trans hS5);have HR5:=Zc hR5;have HH6:=Zc hH6;clear hS5 hR5 hH6 ht5 v2;go_wp2_with fail;refine(VT b c5 k _ M od ps fl x o.qa f w5 HR5.o HH6.o hf HV.o HX.o (by omega)).mono ?_;rintro e w6 ⟨rfl,c6,hR6,hS6⟩;have HR6:=Zc hR6;have HS6:=Zc hS6;clear hR6 hS6;go_wp2_with fail;go_ret;refine⟨rfl,c6,?_,HS2.o.trans (HS25.o.trans HS6.o)⟩;have e:st.execute o f o.qa=(((({st with qi:=m}:St).say (({st with qi:=m}:St).fill f.qf o.qa f.qc m)).say (({st with qi:=m}:St).fill o.qf o.qa f.qc m)).put (st.head 101++enc f.ref 4++enc o.qa 2++enc m 4)).upd f.qd f.qe f.qc (redO f.qf o.qa):=by rw[←HM.o];rfl
  rw[e];exact HR6.o
 ·have hmin2:¬((o.qa:Int)≤(f.qa:Int)):=by omega
  have hmn:=HN.o;clear hnm;obtain rfl:n=f.qa:=by omega
  go_wp2_with fail;generalize hOb2:Obj.cells _ 108=Ob2;have hW2:Fr (λj=>j=b) w1 (w1.setCell ⟨b,17,none⟩ (.int .u32 m)):=Fr.setCell w1 ⟨b,17,none⟩ _;have hi2:Inv {st with qi:=m}:=HR.o.inv.of_q rfl rfl rfl rfl (λ_ q=>q) HR.o.inv.qg (by show m<_;rw[←HM.o];exact YF _ (by decide)) HR.o.inv.time;have hown:=HR1.o.own (c':={c with qi:=m}) (st':={st with qi:=m}) (HR1.o.B.setMats m) hW2 rfl rfl rfl rfl rfl rfl HR1.o.time HR1.o.qg rfl hi2 rfl rfl rfl rfl rfl;have hH2:Holds (w1.setCell ⟨b,17,none⟩ (.int .u32 m)) {c with qi:=m} k {st with qi:=m} M od ps fl:=(HH.o.quiet HF1.o).own hd hW2 rfl hi2 rfl rfl rfl rfl rfl;have hA2:Fr (λ_=>False) (w1.setCell ⟨b,17,none⟩ (.int .u32 m)) ((w1.setCell ⟨b,17,none⟩ (.int .u32 m)).alloc Ob2):=Fr.alloc _ _ _;have hs1:(w1.setCell ⟨b,17,none⟩ (.int .u32 m)).heap.size=w1.heap.size:=by simp[World.setCell]
  have hbf:Box ((w1.setCell ⟨b,17,none⟩ (.int .u32 m)).alloc Ob2) w1.heap.size aa zz f:=Box.of (t:=108) (by rw[YX,Zg hs1.symm,←hOb2];rfl);have hbo:Box ((w1.setCell ⟨b,17,none⟩ (.int .u32 m)).alloc Ob2) w.heap.size a z o:=(HBX1.o.fr hW2 (λe=>by have e:w.heap.size=b:=e;omega)).fr hA2 (λe=>e);have hS2:Stp w b c k ((w1.setCell ⟨b,17,none⟩ (.int .u32 m)).alloc Ob2) {c with qi:=m}:=(Stp.quiet HF1.o).trans (Stp.trans (c1:={c with qi:=m}) ⟨hown.2.1,λj hj=>Or.inl (hown.2.2 j hj),rfl,rfl,rfl⟩ (Stp.quiet hA2));have hR2:=hown.1.quiet hA2;have hH3:=hH2.quiet hA2;have hgl2:w1.heap.size<((w1.setCell ⟨b,17,none⟩ (.int .u32 m)).alloc Ob2).heap.size:=by rw[Xb,hs1];omega
  clear hOb2 hW2 hown hH2 hA2 hs1 hi2 g17 f17 p3 p7;generalize ((w1.setCell ⟨b,17,none⟩ (.int .u32 m)).alloc Ob2)=V at hbf hbo hS2 hR2 hH3 hgl2 ⊢;obtain⟨c2,hc2⟩:∃c2,c2=({c with qi:=m}:BC):=⟨_,rfl⟩;have hpm2:c2.pm=c.pm:=by rw[hc2]
  have hgb2:∀j,GB b c2 k j→j<w.heap.size:=by rw[hc2];exact hgb
  rw[←hc2] at hS2 hR2 hH3;clear hc2;have ng0:¬GB b c2 k w.heap.size:=λe=>by have:=hgb2 _ e;omega
  have ng1:¬GB b c2 k w1.heap.size:=λe=>by have:=hgb2 _ e;omega
  have htm2:c2.time=st.time:=hR2.time;have hmt2:c2.qi=m:=hR2.qi;refine(VA b c2 st.ans f.qf f.qa f.qc V hR2.B hR2.tm.1 hR2.tm.2 hR2.A hR2.dist.ab (by omega) htok (by omega) hpr).mono ?_;rintro e w3 ⟨rfl,ht3⟩;obtain⟨c3,hR3,hS3,hp3,-⟩:=hR2.tellA (l:=({st with qi:=m}:St).fill f.qf f.qa f.qc m) ht3 (by rw[htm2,hmt2];unfold St.fill St.head;simp)
  have hH4:=hH3.tellA (l:=({st with qi:=m}:St).fill f.qf f.qa f.qc m) (c':=c3) hR2.dist ht3 hp3;have u3:=hS3.fr.cell hbo.c3 ng0;have u6:=hS3.fr.cell hbf.c6 ng1;have HS2:=Zc hS2;have HS3:=Zc hS3;have HR3:=Zc hR3;have HH4:=Zc hH4;have HBF:=Zc hbf;clear hS2 hS3 hR2 hR3 hH3 hH4 ht3 hbf hbo;go_wp2_with fail;have htm3:c3.time=st.time:=HR3.o.time;have hmt3:c3.qi=m:=HR3.o.qi;refine(VA b c3 _ o.qf f.qa f.qc w3 HR3.o.B HR3.o.tm.1 HR3.o.tm.2 HR3.o.A HR3.o.dist.ab (by simp[St.say,St.fill,St.head,YZ];omega) ho (by omega) hpr).mono ?_;rintro e w4 ⟨rfl,ht4⟩;obtain⟨c4,hR4,hS4,hp4,-⟩:=HR3.o.tellA (l:=({st with qi:=m}:St).fill o.qf f.qa f.qc m) ht4 (by rw[htm3,hmt3];unfold St.fill St.head;simp)
  have hH5:=HH4.o.tellA (l:=({st with qi:=m}:St).fill o.qf f.qa f.qc m) (c':=c4) HR3.o.dist ht4 hp4;have hS24:=HS3.o.trans hS4;have v2:=hS24.fr.cell HBF.o.c2 ng1;have HS24:=Zc hS24;have HR4:=Zc hR4;have HH5:=Zc hH5;clear hS24 hS4 hR4 hH5 ht4 u3 u6;go_wp2_with fail;have htm4:c4.time=st.time:=HR4.o.time;have hmt4:c4.qi=m:=HR4.o.qi;refine(UT b c4 st.tape f.ref f.qa w4 HR4.o.B HR4.o.tm.1 HR4.o.tm.2 HR4.o.T HR4.o.dist.tb (by omega) href (by omega)).mono ?_;rintro e w5 ⟨rfl,ht5⟩;obtain⟨c5,hR5,hS5,hp5,-⟩:=HR4.o.tellT (l:=st.head 101++enc f.ref 4++enc f.qa 2++enc m 4) ht5 (by rw[htm4,hmt4];show st.tape++_++_++_++_=st.tape++_;unfold St.head;simp)
  have hH6:=HH5.o.tellT (l:=st.head 101++enc f.ref 4++enc f.qa 2++enc m 4) (c':=c5) HR4.o.dist ht5 hp5;have HS25:=Zc (HS24.o.trans hS5);have HR5:=Zc hR5;have HH6:=Zc hH6;clear hS5 hR5 hH6 ht5 v2;go_wp2_with fail;refine(VT b c5 k _ M od ps fl x f.qa f w5 HR5.o HH6.o hf HV.o HX.o (by omega)).mono ?_;rintro e w6 ⟨rfl,c6,hR6,hS6⟩;have HR6:=Zc hR6;have HS6:=Zc hS6;clear hR6 hS6;go_wp2_with fail;go_ret;refine⟨rfl,c6,?_,HS2.o.trans (HS25.o.trans HS6.o)⟩;have e:st.execute o f f.qa=(((({st with qi:=m}:St).say (({st with qi:=m}:St).fill f.qf f.qa f.qc m)).say (({st with qi:=m}:St).fill o.qf f.qa f.qc m)).put (st.head 101++enc f.ref 4++enc f.qa 2++enc m 4)).upd f.qd f.qe f.qc (redO f.qf f.qa):=by rw[←HM.o];rfl
  rw[e];exact HR6.o
end
end Go.Proofs.YtphkchjejbffeaaGreat
