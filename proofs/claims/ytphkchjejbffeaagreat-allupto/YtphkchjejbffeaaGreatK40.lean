/- V8, X4, XG, FA -/
import Derived.Test.YtphkchjejbffeaaGreatK32
import Derived.Test.YtphkchjejbffeaaGreatK39
set_option maxHeartbeats 16000000
set_option maxRecDepth 100000
namespace Go.Proofs.YtphkchjejbffeaaGreat
open Go.Proofs.Tryz
open Go.RowKit
variable {w:World}
section
open Go.RowKit
attribute [local go_sem ↓] Go.wp_at_zero Go.wp_at_succ
theorem Zca {U:Nat→Prop}{wb:Nat}{x:Vw}(h:VC w U wb x)(hx:x.ex=[])(hU:∀k,U k→k<w.heap.size)(hin:x.ins.length≤1000000000)(hnn:x.nn≤1000000000)(ho:x.ords.length≤4000000000)(l:List UInt8)(hl:l.length≤999999990):
  Calls prog 40 #[.pointer (some ⟨wb,0,none⟩),.string ⟨l.toArray⟩] w λe w'=>e=.returned (.bool true)∧∃x',VC w' U wb x'∧Vg x x' 1∧Fr (λk=>¬U k) w w':=by
 have hw0:∀v∈x.ins,v.ownBlock≠some w.heap.size:=λv hv e=>by have:=((h.ful v hv).ty e).lt;omega
 have hw1:∀p∈x.bys,p.1.ownBlock≠some w.heap.size:=λp hp e=>by have:=(h.bob p hp _ e).lt;omega
 have hw2:=h.lt;have HC:=Zc (Zd5 h hx hU hin l (by omega));have HW:=Zc (Zd hw0 (Zd hw1 (Zd hw2 hU)));obtain⟨n,hn⟩:=Za (l.length);obtain⟨n2,hn2⟩:=Za (n+2);clear h hw0 hw1 hw2;go_enter func40,ntmps40;go_wp2_with fail;refine HC.o.mono ?_;rintro e w1 ⟨vi1,rfl,hwc1,hg1,hB1⟩;have hs1:w.heap.size<w1.heap.size:=(Ze.1 hg1).1;have hrd1:Rd w1 (λ_=>False) (.slice (some ⟨w.heap.size,0,none⟩) l.length (l.length+2)) l:=by refine .inr ⟨w.heap.size,0,_,rfl,?_,by omega,by unfold maxLen;omega,λh=>h,hs1⟩;intro j c hc;have hj:j<l.length:=(Zl.1 hc).1;rw[ZN,Zk w1 w.heap.size j _ _ (0,0) hg1,Yh];unfold VR;rw[Ye (by rw[Yl];omega),Yi,hc];rfl
 have HC2:=Zc (Zj3 w1 _ l hrd1 (by omega));have H1:=Zc (Zd hwc1 (Zd hg1 (Zd hB1 hs1)));clear hwc1 hg1 hB1 hs1 hrd1;rw[hn,hn2] at HC2;rw[hn,hn2];go_wp2_with fail;refine HC2.o.mono ?_;intro e w2 hbp;obtain⟨hB2,v,at_,er,C,rfl,hR,hCl,hsame⟩:=Zhx hbp;clear hbp HC HC2;rw[hn] at hCl;obtain⟨rv,cv,hv,-,-,-⟩:=hR.form;subst hv;obtain⟨hwc1,hg1,hB1,hs1⟩:=H1.o;have hwc2:=hwc1.below hB2;have hg2:w2.heap[w.heap.size]?=some (.cells (VR l).toArray 5):=(hB2.block _ hs1).trans hg1;have HC3:=Zc (Zd3 l hwc2 rfl hin (by omega) hg2 HW.o.1 HW.o.2.1);have H2:=Zc (Zd hB2 (Zd hR (Zd hsame hg2)));clear hwc1 hg1 hB1 hs1 hwc2 hg2 hB2 hR hsame;obtain⟨c,hc⟩:=Za (C.length);rw[hc] at H2 hCl;rw[hc];go_wp2_with fail;refine HC3.o.mono ?_;rintro e w3 ⟨rfl,hwc3,hF3,hF3g⟩;clear HC3;obtain⟨cap,w4,hcv,hB4,hrd4⟩:=Zcs w3 l (by omega);rw[hn] at hcv;have hR3:RsAt w3 w1.heap.size (.slice rv c cv) C:=YY H2.o.2.1 (λg hg=>hF3g.block g (Zs H2.o.2.1 g hg).2 (λe=>by have e:g=w.heap.size:=e;have:=(Zs H2.o.2.1 g hg).1;have:=H1.o.2.2.2;omega))
 have H3:=Zc (Zd hwc3 (Zd hF3 (Zd hB4 hR3)));have HC4:=Zc (Zir w4 _ l hrd4 (by omega));rw[hn] at HC4;clear hwc3 hF3 hB4 hR3 hrd4;go_wp2_with fail;refine HC4.o.mono ?_;intro e w5 hrp;obtain⟨hB5,v3,rfl,hR5⟩:=H2.o.2.2.1 w4 e w5 hrp;obtain⟨r3,c3,hv3,-,-,-⟩:=hR5.form;subst hv3;have hB35:Below w3.heap.size w3 w5:=H3.o.2.2.1.trans (hB5.mono H3.o.2.2.1.size);have hR35:RsAt w5 w1.heap.size (.slice rv c cv) C:=YY H3.o.2.2.2 (λg hg=>hB35.block g (Zs H3.o.2.2.2 g hg).2);have HC5:=Zc (Tp w5 _ _ _ _ C hR35 hR5 (by omega));rw[hc] at HC5;have H5:=Zc (Zd hB35 hR35);clear hR35 hB35 hB5 hR5 hrp HC4 hcv;rw[hc];go_wp2_with fail;refine HC5.o.mono ?_;rintro e w6 ⟨rfl,hB6⟩;clear HC5;have hB36:Below w3.heap.size w3 w6:=H5.o.1.trans (hB6.mono H5.o.1.size);have hwc6:=H3.o.1.below hB36;have hsz3:w1.heap.size≤w3.heap.size:=Zw H2.o.1.size H3.o.2.1.size;have hR6:w6.ownsRow w1.heap.size 40 6 (.slice rv c cv) c (C.flatMap Ord.cells):=by
  have:=YY H3.o.2.2.2 (λg hg=>hB36.block g (Zs H3.o.2.2.2 g hg).2)
  rwa [hc] at this
 have hlow:∀k,VS wb {x with vi:=vi1,ins:=x.ins++[.slice (some ⟨w.heap.size,0,none⟩) (l.length+2) (l.length+2)],ex:=[]} k→k<w1.heap.size:=by
  intro k hk;refine H1.o.1.lt k ?_;rcases hk with e|e|e|e|e|e|e|⟨v,hv,e⟩|⟨v,hv,e⟩|e|e
  ·exact .inl e
  ·exact .inr (.inl e)
  ·exact .inr (.inr (.inl e))
  ·exact .inr (.inr (.inr (.inl e)))
  ·exact .inr (.inr (.inr (.inr (.inl e))))
  ·exact .inr (.inr (.inr (.inr (.inr (.inl e)))))
  ·exact .inr (.inr (.inr (.inr (.inr (.inr (.inl e))))))
  ·rcases ZE.1 hv with hv|hv
   ·exact .inr (.inr (.inr (.inr (.inr (.inr (.inr (.inl ⟨v,hv,e⟩)))))))
   ·exact .inr (.inr (.inr (.inr (.inr (.inr (.inr (.inr (.inl ⟨v,hv,e⟩))))))))
  ·cases hv
  ·exact .inr (.inr (.inr (.inr (.inr (.inr (.inr (.inr (.inr (.inl e)))))))))
  ·exact .inr (.inr (.inr (.inr (.inr (.inr (.inr (.inr (.inr (.inr e)))))))))
 have HC6:=Zc (Zcw hwc6 (b1:=w1.heap.size) (λk hk=>Nat.lt_trans (HW.o.2.2.2 k hk) H1.o.2.2.2) (Zw hsz3 hB36.size) hnn (by omega) ho hR6 hlow);have H6:=Zc hB36;clear hB6 hB36 hwc6 hsz3 hR6 hlow;go_wp2_with fail;refine HC6.o.mono ?_;rintro e w7 ⟨rfl,m,vl,hkp⟩;have H7:=Zc hkp;clear hkp HC6;go_wp2_with (go_at_call 24;refine(Ul er w7).mono ?_;rintro e w8 ⟨rfl,rfl⟩)
 go_ret;obtain⟨new,vo7,vm7,hwc7,hnl,-⟩:=H7.o.ex;refine⟨rfl,_,hwc7,⟨rfl,rfl,rfl,Zh _,?_,ZM _ _,?_⟩,?_⟩
 ·show(x.ins++_).length≤_;rw[Zf];exact Zh _
 ·show(x.ords++new).length≤_;rw[Zf,hnl];exact Zh _
 ·exact(H1.o.2.2.1.trans (Fr.of_below H2.o.1 (λk=>¬U k)) (λ_ _ e=>e)).trans ((H3.o.2.1.trans (Fr.of_below H6.o (λk=>¬U k)) (λ_ _ e=>e)).trans H7.o.fr (λ_ _ e=>e)) (λ_ _ e=>e)
theorem Zis {wb:Nat}{x:Vw}{Ta Tb:List Tn}{t:Tn}(h:LW w wb x (Ta++t::Tb))(hok:Ok x)(hF:t.F≤1600000)(o:Opr)(hk:o.kind=9)(hs:o.s.length≤999999990):
  Calls prog 14 #[.pointer (some ⟨wb,0,none⟩),.pointer (some ⟨t.tb,0,none⟩),.agg o.cells.toArray] w λe w'=>e=.returned (.bool true)∧∃x' t',LW w' wb x' (Ta++t'::Tb)∧Vg x x' 2∧t'.F=t.F:=by
 obtain⟨W0,hW0⟩:=Za (w.alloc (.cells o.cells.toArray 43));obtain⟨bx,hbx⟩:=Za (w.heap.size);have hB0:Below w.heap.size w W0:=by rw[←hW0];exact(Zm _ w).alloc (Zh _) _
 have hxb:W0.heap[bx]?=some (.cells o.cells.toArray 43):=by rw[←hW0,YX,Zg hbx.symm]
 obtain⟨kd,on,a,b,c,s⟩:=o;simp only at hk hs;subst hk;have q0:W0.cell? ⟨bx,0,none⟩=some (.int .i64 9):=Zk W0 bx 0 _ _ (0,0) hxb;have q5:W0.cell? ⟨bx,5,none⟩=some (.string ⟨s.toArray⟩):=Zk W0 bx 5 _ _ (0,0) hxb;have h0:=h.below hB0;have HB1:=Zc (Zca h0.vc h0.ex h0.ult (by have:=hok.ins;omega) (by have:=hok.nn;omega) (by have:=hok.ords;omega) s hs);have H0:=Zc (Zd h0 hok);clear h hB0 hxb h0 hok;go_enter func14,ntmps14;go_wp2_with fail;clear hW0;refine HB1.o.mono ?_;rintro e W1 ⟨rfl,x1,hv1,hg1,hf1⟩;have hlw1:=H0.o.1.world hv1 hg1 hf1;have ht1:=hlw1.tn t (by simp);have hal:t.all.length≤999999990:=by have h1:=(ht1.rw.lens hF).2;have h2:=ht1.tke;omega
 have c2:=ht1.cells.2.2.1;have t1:=Tc (ht1.own.rd (F:=λ_=>False) (λ_ _ e=>e));obtain⟨rt,ct,hvt,-,-⟩:=ht1.own.len;have HB2:=Zc (Zca hlw1.vc hlw1.ex hlw1.ult (by have h1:=H0.o.2.ins;have h2:=hg1.ins;omega) (by have h1:=H0.o.2.nn;have h2:=hg1.nn;omega) (by have h1:=H0.o.2.ords;have h2:=hg1.ords;omega) t.all hal);have H1:=Zc (Zd hlw1 hg1);rw[hvt] at c2 t1;clear HB1 hv1 hg1 hf1 hlw1 ht1 hal hvt q0 q5;go_wp2_with fail;refine HB2.o.mono ?_;rintro e W2 ⟨rfl,x2,hv2,hg2,hf2⟩;have H2:=Zc (Zd (H1.o.1.world hv2 hg2 hf2) (H1.o.2.trans hg2));clear HB2 hv2 hg2 hf2;go_wp2_with fail;go_ret;exact⟨rfl,_,t,H2.o.1,H2.o.2,rfl⟩
theorem all_any {v:Value}{L:List Opr}(hs:Zaz w v L)(hO:∀o∈L,OpOk o)(hL:L.length≤1048576)(hS:(L.map (·.s.length)).sum≤1048576):
  Calls prog 5 #[v] w λe w'=>e=.returned (.bool true)∧Below w.heap.size w w':=by
 have HR:=Zc (Zew hs hO hL hS 9 (.inr rfl) (λ_=>by intro w wb x Ta Tb t h hok hF o hk hs;refine(Zis h hok hF o hk hs).mono ?_;rintro e w' ⟨rfl,x',t',a1,a2,a3⟩;exact⟨rfl,x',t',a1,a2.z,a3⟩))
 clear hs hO hL hS;go_enter func5,ntmps5;go_wp2_with fail;refine HR.o.mono ?_;rintro e w' ⟨rfl,hB⟩;have HB:=Zc hB;clear hB HR;go_wp2_with fail;go_ret;exact⟨rfl,HB.o⟩
end
section
open Go.ChangeShapes Go.WideShapes Go.ChangeAt Go.RowKit
theorem Zii (os:Os)(started:os.Started)(H:Type)(enc:TypeId×Value→H)(F:Stop.Interp):
  ReturnsInHanded {} Tryz.checked os 5 .any ((Rows.OpenSpec.upto Rows.allSpec).pre6 enc prog Tryz.f5 Rows.allUptoRow.domain false) (((Rows.OpenSpec.upto Rows.allSpec).at F).post enc prog Tryz.f5 false true false false):=by
 refine returnsInHanded_of_cond (C:=Tryz.checked) (s:=Rows.OpenSpec.upto Rows.allSpec) (k:=Rows.uptoSmall) rfl own started (by kernel_rfl) func5
  (OpenSpec.witness (enc:=enc) (C:=Tryz.checked) (s:=Rows.OpenSpec.upto Rows.allSpec) (k:=Rows.uptoSmall) rfl false ⟨#[],#[.slice none 0 0],[]⟩ 8 (by kernel_rfl) (by kernel_rfl) (by kernel_rfl)
   (x:=([.nil],[],[])) (by kernel_rfl) rfl (by kernel_rfl)) ?_
 intro W base args ds gs before hval0 hW _ hk0 _;have hval:∀(j:Nat) t v,Tryz.f5.params[j]?=some t→args[j]?=some v→Value.okWide prog W .any base t v:=hval0;have hk:Rows.uptoSmall H (ds++gs)=true:=hk0;have hW':=hW;obtain⟨p,q,hA0,hV,rfl,hfz,hnd⟩:=hW;have hA:DataW.TrodAll enc prog W 0 (λ_=>true) true Tryz.f5.params.toList args.toList ds p:=hA0;rw[params5] at hA hval;obtain⟨v1,vs1,d1,ds1,p1,q1,hargs,rfl,rfl,h1,r1⟩:=trodAll_cons hA;obtain⟨rfl,rfl,rfl⟩:=trodAll_nil r1;obtain rfl:args=#[v1]:=by cases args;simp_all
 obtain⟨rfl,rfl⟩:=trodVars_none hV;obtain⟨a1,len1,cap1,rfl⟩:=okWide_slice underlying22 (hval 0 22 v1 rfl rfl);have k1:=h1;have lt1:∀x∈p1,x.block<W.heap.size:=by obtain⟨m,hm⟩:=k1;exact DataW.trod_lt m _ _ _ hm
 have hb:=Zb8 hk;obtain⟨L,hs,hO,hL,hS⟩:∃L:List Opr,Zaz W (.slice a1 len1 cap1) L∧(∀o∈L,OpOk o)∧L.length≤1048576∧(L.map (·.s.length)).sum≤1048576:=by obtain⟨fuel,hf⟩:=h1;obtain⟨L,q1,q2,q3,q4⟩:=Zg3 (by simpa[Value.cells] using hf);have h2:=Zac (d:=d1) (l:=[d1]++[]) (by simp);simp only at q3 q4;exact⟨L,q1,q2,by omega,by omega⟩
 clear hA0 hval0 hb hk0;refine(all_any hs hO hL hS).mono λe W' ⟨he,bel⟩ => ?_;subst he;exact⟨_,rfl,_,_,_,[],_,[],hW',trodAll_mk1 (shut_bool underlying4 _),(trodAll_cons_mk (Below.trod Zjg (by kernel_rfl) (of_decide_eq_true (by kernel_rfl)) k1 bel lt1) trodAll_mk0),rfl,bel.frame _,λh=>by cases h⟩
theorem all_said :Rows.AllUptoSaid:=
 OpenClaim.holds_of_cond 5 Tryz.f5 rfl rfl rfl rfl rfl rfl rfl ⟨rfl,rfl,rfl,rfl,rfl⟩ rfl rfl rfl rfl rfl (by kernel_rfl) func5 (by kernel_rfl)
  (of_decide_eq_true (by kernel_rfl)) (by unfold Func.isWrapper;first|(rw[Zg (by decide +kernel)];kernel_rfl)|(rw[Zj (by decide +kernel)];exact⟨rfl,rfl⟩))
  (λos started H enc _ F=>Zii os started H enc F)
end
end Go.Proofs.YtphkchjejbffeaaGreat
