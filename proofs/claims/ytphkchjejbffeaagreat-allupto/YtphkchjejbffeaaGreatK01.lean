/- Base, Q1, Q2, Spec, P1, P2 -/
import Derived.WalkKit
import Derived.WalkSpells
import Derived.WalkLawsBesides
import Derived.Deep.AppendLies
set_option maxHeartbeats 16000000
set_option maxRecDepth 100000
namespace Go.Proofs.YtphkchjejbffeaaGreat
theorem Za {α : Sort _} (e : α) : ∃ x, e = x := ⟨_, rfl⟩
theorem Zb {α β : Type _} {Q : α → β → Prop} {v : α} {x : β} (h : Q v x) : ∀ e w, e = v ∧ w = x → Q e w := fun _ _ ⟨h1, h2⟩ => by rw [h1, h2]; exact h
theorem _root_.Go.RowKit.Hid.o {p : Prop} (h : Go.RowKit.Hid p) : p := h.out
theorem Zc {p : Prop} (h : p) : Go.RowKit.Hid p := h
theorem Zd {p q : Prop} (h : p) (k : q) : p ∧ q := ⟨h, k⟩
theorem Ze : type_of% @Array.getElem?_eq_some_iff := @Array.getElem?_eq_some_iff
theorem Zf : type_of% @List.length_append := @List.length_append
theorem Zg : type_of% @if_pos := @if_pos
theorem Zh : type_of% @Nat.le_refl := @Nat.le_refl
theorem Zi : type_of% @Go.heap_setCell_same := @Go.heap_setCell_same
theorem Zj : type_of% @if_neg := @if_neg
theorem Zk : type_of% @Go.cell_of_row := @Go.cell_of_row
theorem Zl : type_of% @List.getElem?_eq_some_iff := @List.getElem?_eq_some_iff
theorem Zm : type_of% @Go.RowKit.Below.refl := @Go.RowKit.Below.refl
theorem Zn : type_of% @Nat.lt_of_lt_of_le := @Nat.lt_of_lt_of_le
theorem Zo : type_of% @List.append_assoc := @List.append_assoc
theorem Zp : type_of% @List.getElem?_eq_getElem := @List.getElem?_eq_getElem
theorem Zq : type_of% @Go.IntKind.wrap_i64 := @Go.IntKind.wrap_i64
theorem Zr : type_of% @List.nil_append := @List.nil_append
theorem Zs : type_of% @Go.World.ownsRow.lt := @Go.World.ownsRow.lt
theorem Zt : type_of% @List.length_drop := @List.length_drop
theorem Zu : type_of% @List.length_cons := @List.length_cons
theorem Zv : type_of% @Option.some.inj := @Option.some.inj
theorem Zw : type_of% @Nat.le_trans := @Nat.le_trans
theorem Zx : type_of% @List.length_eq_zero_iff := @List.length_eq_zero_iff
theorem Zy : type_of% @Nat.zero_le := @Nat.zero_le
theorem Zz : type_of% @beq_eq_false_iff_ne := @beq_eq_false_iff_ne
theorem ZA : type_of% @List.take_succ_cons := @List.take_succ_cons
theorem ZB : type_of% @List.drop_succ_cons := @List.drop_succ_cons
theorem ZC : type_of% @Go.bodyPost_ret := @Go.bodyPost_ret
theorem ZD : type_of% @List.length_take := @List.length_take
theorem ZE : type_of% @List.mem_append := @List.mem_append
theorem ZF : type_of% @List.cons_append := @List.cons_append
theorem ZG : type_of% @List.append_nil := @List.append_nil
theorem ZH : type_of% @List.map_append := @List.map_append
theorem ZI : type_of% @List.take_zero := @List.take_zero
theorem ZJ : type_of% @List.drop_zero := @List.drop_zero
theorem ZK : type_of% @List.nodup_cons := @List.nodup_cons
theorem ZL : type_of% @List.mem_cons := @List.mem_cons
theorem ZM : type_of% @Nat.le_add_right := @Nat.le_add_right
theorem ZN : type_of% @Nat.zero_add := @Nat.zero_add
theorem ZO : type_of% @Go.World.ownsRow_nil := @Go.World.ownsRow_nil
theorem ZP : type_of% @List.mem_map := @List.mem_map
theorem ZQ : type_of% @List.getD_eq_getElem?_getD := @List.getD_eq_getElem?_getD
theorem ZR : type_of% @List.flatten_cons := @List.flatten_cons
theorem ZS : type_of% @List.filter_append := @List.filter_append
theorem ZT : type_of% @List.length_nil := @List.length_nil
theorem ZU : type_of% @Go.World.block_lt_of_cell? := @Go.World.block_lt_of_cell?
theorem ZV : type_of% @List.map_cons := @List.map_cons
theorem ZW : type_of% @List.mem_of_getElem? := @List.mem_of_getElem?
theorem ZX : type_of% @Go.Value.slice.injEq := @Go.Value.slice.injEq
theorem ZY : type_of% @Array.getElem?_eq_getElem := @Array.getElem?_eq_getElem
theorem ZZ : type_of% @List.flatten_nil := @List.flatten_nil
theorem Ya : type_of% @List.nodup_append := @List.nodup_append
theorem Yb : type_of% @List.set_append_right := @List.set_append_right
theorem Yc : type_of% @List.filter_cons_of_pos := @List.filter_cons_of_pos
theorem Yd : type_of% @List.flatMap_append := @List.flatMap_append
theorem Ye : type_of% @List.getElem?_append_left := @List.getElem?_append_left
theorem Yf : type_of% @List.length_set := @List.length_set
theorem Yg : type_of% @Go.Addr.add_lit := @Go.Addr.add_lit
theorem Yh : type_of% @List.getElem?_toArray := @List.getElem?_toArray
theorem Yi : type_of% @List.getElem?_map := @List.getElem?_map
theorem Yj : type_of% @Array.getD_eq_getD_getElem? := @Array.getD_eq_getD_getElem?
theorem Yk : type_of% @List.flatMap_cons := @List.flatMap_cons
theorem Yl : type_of% @List.length_map := @List.length_map
theorem Ym : type_of% @List.dropLast_concat_getLast := @List.dropLast_concat_getLast
theorem Yn : type_of% @List.pairwise_cons := @List.pairwise_cons
theorem Yo : type_of% @decide_eq_false := @decide_eq_false
theorem Yp : type_of% @List.setIfInBounds_toArray := @List.setIfInBounds_toArray
theorem Yq : type_of% @List.pairwise_append := @List.pairwise_append
theorem Yr : type_of% @List.take_append_drop := @List.take_append_drop
theorem Ys : type_of% @Option.some.injEq := @Option.some.injEq
theorem Yt : type_of% @List.mem_filter := @List.mem_filter
theorem Yu : type_of% @Go.results_none := @Go.results_none
theorem Yv : type_of% @List.take_of_length_le := @List.take_of_length_le
theorem Yw : type_of% @List.mem_cons_of_mem := @List.mem_cons_of_mem
theorem Yx : type_of% @List.getElem?_append_right := @List.getElem?_append_right
theorem Yy : type_of% @List.findIdx?_eq_some_iff_getElem := @List.findIdx?_eq_some_iff_getElem
theorem Yz : type_of% @Int.toNat_natCast := @Int.toNat_natCast
theorem YA : type_of% @Option.map_eq_some_iff := @Option.map_eq_some_iff
theorem YB : type_of% @Go.Addr.mk.injEq := @Go.Addr.mk.injEq
theorem YC : type_of% @Go.World.cell?_of_block := @Go.World.cell?_of_block
theorem YD : type_of% @decide_eq_true := @decide_eq_true
theorem YE : type_of% @List.filter_cons_of_neg := @List.filter_cons_of_neg
theorem YF : type_of% @Nat.mod_lt := @Nat.mod_lt
theorem YG : type_of% @UInt8.toNat_inj := @UInt8.toNat_inj
theorem YH : type_of% @Nat.sub_self := @Nat.sub_self
theorem YI : type_of% @List.drop_eq_getElem_cons := @List.drop_eq_getElem_cons
theorem YJ : type_of% @List.set_set := @List.set_set
theorem YK : type_of% @List.take_succ_eq_append_getElem := @List.take_succ_eq_append_getElem
theorem YL : type_of% @Nat.pow_le_pow_right := @Nat.pow_le_pow_right
theorem YM : type_of% @Bool.and_eq_true := @Bool.and_eq_true
theorem YN : type_of% @Go.run_underlying := @Go.run_underlying
theorem YO : type_of% @List.getElem?_set := @List.getElem?_set
theorem YP : type_of% @Go.RowKit.Below.heap_setCell := @Go.RowKit.Below.heap_setCell
theorem YQ : type_of% @Go.below_drewN := @Go.below_drewN
theorem YR : type_of% @List.mem_range := @List.mem_range
theorem YS : type_of% @List.length_eraseIdx := @List.length_eraseIdx
theorem YT : type_of% @List.drop_of_length_le := @List.drop_of_length_le
theorem YU : type_of% @List.prefix_refl := @List.prefix_refl
theorem YV : type_of% @List.append_of_mem := @List.append_of_mem
theorem YW : type_of% @List.length_filter_le := @List.length_filter_le
open Go.RowKit
variable {a ps:List Nat}{l:List UInt8}{b f o p s s' x:Nat}{aft aft' bef:Nat→Nat}{α:Type}{d d':UInt8}{v:Value}{w:World}
section
open Go.RowKit
theorem _root_.Go.RowKit.Hid.mk {p:Prop}(h:p):Hid p:=h
def B (c:UInt8):Value:=.int .u8 (c.toNat:Int)
theorem B_lt (c:UInt8):(c.toNat:Int)<256:=by have:=c.toNat_lt;omega
def Lies (w:World)(b o:Nat)(l:List UInt8):Prop:=∀j c,l[j]?=some c→w.cell? ⟨b,o+j,none⟩=some (B c)
theorem Lies.cell (h:Lies w b o l)(k:Nat)(hk:k<l.length):w.cell? ⟨b,o+k,none⟩=some (.int .u8 ((l.getD k 0).toNat:Int)):=by have:=h k (l[k]) (by simp[hk]);rw[this];simp[B,hk]
theorem Lies.drop (h:Lies w b o l)(n:Nat):Lies w b (o+n) (l.drop n):=by intro j c hc;rw[List.getElem?_drop] at hc;have:=h _ _ hc;rw[←this];congr 2;omega
theorem Lies.take (h:Lies w b o l)(n:Nat):Lies w b o (l.take n):=by
 intro j c hc;rw[List.getElem?_take] at hc;split at hc
 ·exact h _ _ hc
 ·cases hc
theorem Lies.keep {w':World}(h:Lies w b o l)(hb:w'.heap[b]?=w.heap[b]?):Lies w' b o l:=
 λj c hc=>(YC (a:=⟨b,o+j,none⟩) hb).trans (h j c hc)
def num :List UInt8→Nat→Nat
 | [],v=>v
 | c::l,v=>num l (256*v+c.toNat)
theorem VH (l m:List UInt8)(v:Nat):num (l++m) v=num m (num l v):=by
 induction l generalizing v with
 | nil=>rfl
 | cons c l ih=>simp[num,ih]
theorem TF (l:List UInt8)(v:Nat):num l v<256^l.length*(v+1):=by
 induction l generalizing v with
 | nil=>simp[num]
 | cons c l ih=>
  have h:=ih (256*v+c.toNat);have hc:=c.toNat_lt;have:256^l.length*(256*v+c.toNat+1)≤256^l.length*(256*(v+1)):=Nat.mul_le_mul_left _ (by omega);simp only[num,Zu,Nat.pow_succ]
  calc _<_:=h
   _≤_:=this
   _=_:=by rw[Nat.mul_assoc]
def enc (v:Nat):Nat→List UInt8
 | 0=>[]
 | n+1=>enc (v / 256) n++[UInt8.ofNat v]
theorem YZ (v n:Nat):(enc v n).length=n:=by
 induction n generalizing v with
 | zero=>rfl
 | succ n ih=>simp[enc,ih]
theorem Zjt (v n:Nat):num (enc v n) 0=v%256^n:=by
 induction n generalizing v with
 | zero=>simp[enc,num,Nat.mod_one]
 | succ n ih=>
  simp only[enc,VH,ih,num];rw[Nat.pow_succ,Nat.mul_comm (256^n) 256,Nat.mod_mul];have:(UInt8.ofNat v).toNat=v%256:=by simp
  omega
theorem Zjf (v n j:Nat)(h:j<n):(enc v n)[n-1-j]?=some (UInt8.ofNat (v / 256^j)):=by
 induction n generalizing v j with
 | zero=>omega
 | succ n ih=>
  cases j with
  | zero=>simp[enc,YZ]
  | succ j=>
   have:=ih (v / 256) j (by omega);simp only[enc];rw[show n+1-1-(j+1)=n-1-j by omega,Ye (by rw[YZ];omega),this];rw[Nat.div_div_eq_div_mul,Nat.pow_succ,Nat.mul_comm 256]
def half (v n j:Nat):Array Value:=(List.replicate (n-j) (B 0)++((enc v n).drop (n-j)).map B).toArray
theorem Zkb (v n j:Nat)(_:j≤n):(half v n j).size=n:=by
 have:(List.replicate (n-j) (B 0)++((enc v n).drop (n-j)).map B).length=n:=by simp[YZ];try omega
 exact this
theorem TR (v n:Nat):half v n 0=(List.replicate n (B 0)).toArray:=by unfold half;rw[Nat.sub_zero,YT (by rw[YZ];omega)];simp
theorem Zkp (v n:Nat):half v n n=((enc v n).map B).toArray:=by simp[half]
theorem half_set (v n j:Nat)(h:j<n):(half v n j).setIfInBounds (n-1-j) (B (UInt8.ofNat (v / 256^j)))=half v n (j+1):=by
 unfold half;rw[Yp]
 congr 1
 have hd:(enc v n).drop (n-(j+1))=UInt8.ofNat (v / 256^j)::(enc v n).drop (n-j):=by
  have hg:=Zjf v n j h;have hlt:n-(j+1)<(enc v n).length:=by rw[YZ];omega
  rw[YI hlt,show n-(j+1)+1=n-j by omega]
  congr 1
  rw[show n-1-j=n-(j+1) by omega,Zp hlt] at hg;exact Zv hg
 rw[hd,show n-j=(n-(j+1))+1 by omega,List.replicate_succ',Zo,Yb _ _ (by simp;omega)];simp[show n-1-j-(n-(j+1))=0 by omega]
theorem half_get (v n j:Nat)(h:j<n):(half v n j)[n-1-j]?=some (B 0):=by unfold half;rw[Yh,Ye (by simp;omega),List.getElem?_replicate,Zg (by omega)]
theorem Zem (v:Nat):B (UInt8.ofNat v)=.int .u8 ((v:Int)%256):=by simp[B]
def pick (c:Int)(n:Nat):Nat:=(if c<0 then -(c+1) else c).toNat%n
theorem VP (c:Int)(n:Nat)(h:0<n):pick c n<n:=YF _ h
theorem Vl (l:List UInt8)(k:Nat)(h:k<l.length):l.take (k+1)=l.take k++[l.getD k 0]:=by rw[YK h];simp[h]
theorem YX (w:World)(o:Obj)(k:Nat):(w.alloc o).heap[k]?=if k=w.heap.size then some o else w.heap[k]?:=by show(w.heap.push o)[k]?=_;rw[Array.getElem?_push]
theorem Xb (w:World)(o:Obj):(w.alloc o).heap.size=w.heap.size+1:=by show(w.heap.push o).size=_;simp
theorem Xs {b':Nat}{e:TypeId}{size:Nat}{n:Nat}{xs:List Value}(h:w.ownsRow b e size v n xs)(hb:b'≤b):w.ownsRow b' e size v n xs:=by
 refine⟨h.1,?_⟩;rcases h.2 with h|⟨g,cap,cur,h1,h2,h3⟩
 ·exact .inl h
 ·exact .inr ⟨g,cap,cur,h1,Zw hb h2,h3⟩
def Own (w:World)(b:Nat)(v:Value)(l:List UInt8):Prop:=w.ownsRow b 5 1 v l.length (l.map B)
theorem Own.base {b':Nat}(h:Own w b v l)(hb:b'≤b):Own w b' v l:=Xs h hb
theorem Own.cast {l':List UInt8}(h:Own w b v l)(hl:l=l'):Own w b v l':=hl▸h
end
section
def updN (g:Nat→α)(i:Nat)(v:α):Nat→α:=λj=>if j=i then v else g j
theorem Xk (g:Nat→α)(i:Nat)(v:α):updN g i v i=v:=Zg rfl
theorem Xj (g:Nat→α)(i j:Nat)(v:α)(h:j≠i):updN g i v j=g j:=Zj h
def Chain (bef aft:Nat→Nat):Nat→List Nat→Prop
 | _,[]=>True
 | p,x::l=>x≠0∧bef x=p∧aft x=l.headD 0∧Chain bef aft x l
theorem Chain.congr {bef':Nat→Nat}{l:List Nat}:∀ {p:Nat},Chain bef aft p l→(∀x∈l,bef' x=bef x)→(∀x∈l,aft' x=aft x)→Chain bef' aft' p l:=by
 induction l with
 | nil=>intros;trivial
 | cons x l ih=>
  intro p h h1 h2;exact⟨h.1,(h1 x (by simp)).trans h.2.1,(h2 x (by simp)).trans h.2.2.1,ih h.2.2.2 (λy hy=>h1 y (by simp[hy])) (λy hy=>h2 y (by simp[hy]))⟩
theorem Chain.ne {l:List Nat}:∀ {p:Nat},Chain bef aft p l→∀x∈l,x≠0:=by
 induction l with
 | nil=>intro p _ x hx;cases hx
 | cons y l ih=>
  intro p h x hx;rcases ZL.1 hx with rfl|hx
  ·exact h.1
  ·exact ih h.2.2.2 x hx
theorem Chain.mid {b:List Nat}:∀ {p:Nat},Chain bef aft p (a++x::b)→bef x=a.getLastD p∧aft x=b.headD 0∧x≠0:=by
 induction a with
 | nil=>intro p h;exact⟨h.2.1,h.2.2.1,h.1⟩
 | cons z a ih=>
  intro p h;have:=ih h.2.2.2;rw[List.getLastD_cons];exact this
theorem Vk (l:List Nat)(p:Nat):l.getLastD p=p∨l.getLastD p∈l:=by
 induction l generalizing p with
 | nil=>exact Or.inl rfl
 | cons x l ih=>
  rw[List.getLastD_cons];rcases ih x with h|h
  ·exact Or.inr (by rw[h];simp)
  ·exact Or.inr (Yw _ h)
theorem Chain.join {l:List Nat}(hx:x≠0):∀ {p:Nat},Chain bef aft p l→(p::l).Nodup→x∉p::l→
  Chain (updN bef x (l.getLastD p)) (updN (updN aft x 0) (l.getLastD p) x) p (l++[x]):=by
 induction l with
 | nil=>
  intro p h hn hm;have hxp:x≠p:=by simpa using hm
  refine⟨hx,Xk _ _ _,?_,trivial⟩;show updN (updN aft x 0) p x x=0;rw[Xj _ _ _ _ hxp,Xk]
 | cons z l ih=>
  intro p h hn hm;have hn':(z::l).Nodup:=(ZK.1 hn).2;have hm':x∉z::l:=λh=>hm (by simp at h ⊢;exact Or.inr h);have hxz:z≠x:=λe=>hm' (by simp[e]);rw[List.getLastD_cons];refine⟨h.1,by rw[Xj _ _ _ _ hxz];exact h.2.1,?_,ih h.2.2.2 hn' hm'⟩;rcases l with _|⟨y,l⟩
  ·exact Xk _ _ _
  ·have hzl:z≠(y::l).getLastD z:=by
    intro e;have:(y::l).getLastD z∈y::l:=by
     rw[List.getLastD_cons];rcases Vk l y with h|h
     ·rw[h];simp
     ·exact Yw _ h
    exact(ZK.1 hn').1 (e▸this)
   rw[Xj _ _ _ _ hzl,Xj _ _ _ _ hxz];exact h.2.2.1
theorem Chain.leave {b:List Nat}:∀ {p:Nat},Chain bef aft p (a++x::b)→(p::(a++x::b)).Nodup→
  Chain (updN bef (b.headD 0) (a.getLastD p)) (updN aft (a.getLastD p) (b.headD 0)) p (a++b):=by
 induction a with
 | nil=>
  intro p h hn;obtain⟨h1,h2,h3,h4⟩:=h;rcases b with _|⟨y,b⟩
  ·trivial
  ·have hp:p∉x::y::b:=(ZK.1 hn).1;have hn2:(y::b).Nodup:=(ZK.1 (ZK.1 hn).2).2;refine⟨h4.1,Xk _ _ _,?_,?_⟩
   ·show updN aft p y y=_;rw[Xj _ _ _ _ (λe=>hp (by simp[e]))];exact h4.2.2.1
   ·refine h4.2.2.2.congr (λu hu=>Xj _ _ _ _ ?_) (λu hu=>Xj _ _ _ _ ?_)
    ·intro e;exact(ZK.1 hn2).1 ((show u=y from e)▸hu)
    ·intro e;have e:u=p:=e;exact hp (by rw[←e];simp[hu])
 | cons z a ih=>
  intro p h hn;obtain⟨h1,h2,h3,h4⟩:=h;have hn':(z::(a++x::b)).Nodup:=(ZK.1 hn).2;have hz:z∉a++x::b:=(ZK.1 hn').1;rw[List.getLastD_cons];refine⟨h1,?_,?_,ih h4 hn'⟩
  ·rw[Xj _ _ _ _ ?_]
   ·exact h2
   ·intro e;rcases b with _|⟨y,b⟩
    ·exact h1 e
    ·exact hz (by rw[show z=y from e];simp)
  ·rcases a with _|⟨y,a⟩
   ·exact Xk _ _ _
   ·rw[Xj _ _ _ _ ?_]
    ·exact h3
    ·intro e;rw[List.getLastD_cons] at e;refine hz ?_;rcases Vk a y with h|h
     ·rw[e,h];simp
     ·rw[e];exact List.mem_append_left _ (Yw _ h)
structure TE (bef aft:Nat→Nat)(f l:Nat)(ps:List Nat):Prop where
 chain:Chain bef aft 0 ps
 first:f=ps.headD 0
 last:l=ps.getLastD 0
 nodup:ps.Nodup
theorem TE.zero {l:Nat}(h:TE bef aft f l ps):(0::ps).Nodup:=
 ZK.2 ⟨λh0=>h.chain.ne 0 h0 rfl,h.nodup⟩
theorem TE.join {l:Nat}(h:TE bef aft f l ps)(hx:x≠0)(hm:x∉ps):
  TE (updN bef x l) (updN (updN aft x 0) l x) (if f=0 then x else f) x (ps++[x]):=by
 refine⟨?_,?_,by rw[List.getLastD_concat],?_⟩
 ·rw[h.last];exact h.chain.join hx h.zero (by simp[hm,hx])
 ·rcases ps with _|⟨y,ps⟩
  ·rw[h.first];rfl
  ·rw[h.first];have:y≠0:=h.chain.1;simp[this]
 ·rw[Ya];exact⟨h.nodup,by simp,by intro a ha b hb;simp at hb;subst hb;exact λe=>hm (e▸ha)⟩
theorem TE.leave {l:Nat}{b:List Nat}(h:TE bef aft f l (a++x::b)):
  TE (updN bef (aft x) (bef x)) (updN aft (bef x) (aft x)) (if f=x then aft x else f) (if l=x then bef x else l) (a++b):=by
 obtain⟨e1,e2,e3⟩:=h.chain.mid;have hnd:=h.nodup;refine⟨?_,?_,?_,?_⟩
 ·rw[e1,e2];exact h.chain.leave h.zero
 ·rw[h.first];rcases a with _|⟨y,a⟩
  ·simp[e2]
  ·have:y≠x:=by intro e;have:=(ZK.1 hnd).1;exact this (by rw[e];simp)
   simp[this]
 ·rw[h.last];rcases List.eq_nil_or_concat b with rfl|⟨b,y,rfl⟩
  ·simp[e1]
  ·have:y≠x:=by intro e;subst e;rw[Ya] at hnd;have:=(ZK.1 hnd.2.1).1;exact this (by simp)
   have q1:(a++x::b.concat y).getLastD 0=y:=by rw[show a++x::b.concat y=(a++x::b)++[y] by simp,List.getLastD_concat]
   have q2:(a++b.concat y).getLastD 0=y:=by rw[show a++b.concat y=(a++b)++[y] by simp,List.getLastD_concat]
   rw[q1,q2,Zj this]
 ·rw[Ya] at hnd ⊢;exact⟨hnd.1,(ZK.1 hnd.2.1).2,λu hu v hv=>hnd.2.2 u hu v (by simp[hv])⟩
theorem TE.congr {bef':Nat→Nat}{l:Nat}(h:TE bef aft f l ps)(h1:∀x∈ps,bef' x=bef x)(h2:∀x∈ps,aft' x=aft x):TE bef' aft' f l ps:=
 ⟨h.chain.congr h1 h2,h.first,h.last,h.nodup⟩
end
section
def jx (s:Nat)(d:UInt8):Nat:=s*2+(if d=66 then 0 else 1)
theorem jx_inj (h:d=66∨d=83)(h':d'=66∨d'=83)(e:jx s d=jx s' d'):s=s'∧d=d':=by unfold jx at e;rcases h with rfl|rfl<;>rcases h' with rfl|rfl<;>simp at e ⊢<;>omega
theorem Zcv {n:Nat}(d:UInt8)(h:s<n):jx s d<n*2:=by unfold jx;split<;>omega
def Zbq (aft:Nat→Nat):Nat→List Nat→Prop
 | f,[]=>f=0
 | f,x::l=>f=x∧x≠0∧Zbq aft (aft x) l
theorem Zbq.congr {l:List Nat}:∀ {f:Nat},Zbq aft f l→(∀x∈l,aft' x=aft x)→Zbq aft' f l:=by
 induction l with
 | nil=>intro f h _;exact h
 | cons x l ih=>
  intro f h h2;exact⟨h.1,h.2.1,by rw[h2 x (by simp)];exact ih h.2.2 (λy hy=>h2 y (by simp[hy]))⟩
theorem Zbq.ne {l:List Nat}:∀ {f:Nat},Zbq aft f l→∀x∈l,x≠0:=by
 induction l with
 | nil=>intro f _ x hx;cases hx
 | cons y l ih=>
  intro f h x hx;rcases ZL.1 hx with rfl|hx
  ·exact h.2.1
  ·exact ih h.2.2 x hx
def upd2 (f:Nat→Nat→Nat)(j i v:Nat):Nat→Nat→Nat:=updN f j (updN (f j) i v)
theorem TQ (f:Nat→Nat→Nat)(j i v:Nat):upd2 f j i v j i=v:=by unfold upd2;rw[Xk,Xk]
theorem Zbf (f:Nat→Nat→Nat)(j i v j' i':Nat)(h:¬(j'=j∧i'=i)):upd2 f j i v j' i'=f j' i':=by
 unfold upd2;by_cases e:j'=j
 ·subst e;rw[Xk,Xj];exact λe2=>h ⟨rfl,e2⟩
 ·rw[Xj _ _ _ _ e]
def updQ (ps:Nat→UInt8→Nat→List Nat)(s:Nat)(d:UInt8)(p:Nat)(l:List Nat):Nat→UInt8→Nat→List Nat:=λs' d' p'=>if s'=s∧d'=d∧p'=p then l else ps s' d' p'
theorem XK (ps:Nat→UInt8→Nat→List Nat)(s:Nat)(d:UInt8)(p:Nat)(l:List Nat):updQ ps s d p l s d p=l:=Zg ⟨rfl,rfl,rfl⟩
theorem Vf (ps:Nat→UInt8→Nat→List Nat)(s:Nat)(d:UInt8)(p:Nat)(l:List Nat){p':Nat}(h:¬(s'=s∧d'=d∧p'=p)):updQ ps s d p l s' d' p'=ps s' d' p':=Zj h
def VV (S L:Nat)(s:Nat)(d:UInt8)(p:Nat):Prop:=s<S∧(d=66∨d=83)∧1≤p∧p≤L
theorem VV.far {S L p':Nat}(h:VV S L s d p)(h':VV S L s' d' p')(hn:¬(s'=s∧d'=d∧p'=p)):¬(jx s' d'=jx s d∧p'-1=p-1):=by rintro⟨e1,e2⟩;obtain⟨rfl,rfl⟩:=jx_inj h'.2.1 h.2.1 e1;have:=h.2.2.1;have:=h'.2.2.1;exact hn ⟨rfl,rfl,by omega⟩
structure Lk (S L n free:Nat)(fs ls:Nat→Nat→Nat)(bef aft:Nat→Nat)(ps:Nat→UInt8→Nat→List Nat)(fl:List Nat):Prop where
 line:∀s d p,VV S L s d p→TE bef aft (fs (jx s d) (p-1)) (ls (jx s d) (p-1)) (ps s d p)
 lt:∀s d p,VV S L s d p→∀x∈ps s d p,x<n
 dis:∀s d p s' d' p',VV S L s d p→VV S L s' d' p'→∀x,x∈ps s d p→x∈ps s' d' p'→s'=s∧d'=d∧p'=p
 free:Zbq aft free fl
 flt:∀x∈fl,x<n
 fnd:fl.Nodup
 fdis:∀s d p,VV S L s d p→∀x∈ps s d p,x∉fl
def Fresh (S L:Nat)(ps:Nat→UInt8→Nat→List Nat)(fl:List Nat)(x:Nat):Prop:=(∀s d p,VV S L s d p→x∉ps s d p)∧x∉fl
section
variable {S L n free:Nat} {fs ls:Nat→Nat→Nat} {bef aft:Nat→Nat} {ps:Nat→UInt8→Nat→List Nat} {fl:List Nat}
theorem Lk.ne0 (h:Lk S L n free fs ls bef aft ps fl)(hv:VV S L s d p)(hx:x∈ps s d p):x≠0:=(h.line s d p hv).chain.ne x hx
theorem Lk.setx (h:Lk S L n free fs ls bef aft ps fl)(hf:Fresh S L ps fl x)(a b:Nat):Lk S L n free fs ls (updN bef x a) (updN aft x b) ps fl:=by
 refine⟨?_,h.lt,h.dis,?_,h.flt,h.fnd,h.fdis⟩
 ·intro s d p hv;refine(h.line s d p hv).congr (λy hy=>Xj _ _ _ _ ?_) (λy hy=>Xj _ _ _ _ ?_)
  ·intro e;subst e;exact hf.1 s d p hv hy
  ·intro e;subst e;exact hf.1 s d p hv hy
 ·refine h.free.congr (λy hy=>Xj _ _ _ _ ?_);intro e;subst e;exact hf.2 hy
theorem Lk.take (h:Lk S L n free fs ls bef aft ps (x::fl)):Lk S L n (aft x) fs ls bef aft ps fl∧Fresh S L ps fl x∧free=x∧x≠0∧x<n:=by obtain⟨h1,h2,h3⟩:=h.free;have hn:=ZK.1 h.fnd;refine⟨⟨h.line,h.lt,h.dis,h3,λy hy=>h.flt y (by simp[hy]),hn.2,λs d p hv y hy hm=>h.fdis s d p hv y hy (by simp[hm])⟩,⟨?_,hn.1⟩,h1,h2,h.flt x (by simp)⟩;intro s d p hv hx;exact h.fdis s d p hv x hx (by simp)
theorem Lk.give (h:Lk S L n free fs ls bef aft ps fl)(hf:Fresh S L ps fl x)(hx:x≠0)(hn:x<n)(ha:aft x=free):Lk S L n x fs ls bef aft ps (x::fl):=by
 refine⟨h.line,h.lt,h.dis,⟨rfl,hx,by rw[ha];exact h.free⟩,?_,ZK.2 ⟨hf.2,h.fnd⟩,?_⟩
 ·intro y hy;rcases ZL.1 hy with rfl|hy
  ·exact hn
  ·exact h.flt y hy
 ·intro s d p hv y hy hm;rcases ZL.1 hm with rfl|hm
  ·exact hf.1 s d p hv hy
  ·exact h.fdis s d p hv y hy hm
theorem Lk.join (h:Lk S L n free fs ls bef aft ps fl)(hv:VV S L s d p)(hx:x≠0)(hxn:x<n)(hf:Fresh S L ps fl x):
  Lk S L n free (upd2 fs (jx s d) (p-1) (if fs (jx s d) (p-1)=0 then x else fs (jx s d) (p-1))) (upd2 ls (jx s d) (p-1) x) (updN bef x (ls (jx s d) (p-1))) (updN (updN aft x 0) (ls (jx s d) (p-1)) x) (updQ ps s d p (ps s d p++[x])) fl:=by
 have hl:=h.line s d p hv;have hlast:ls (jx s d) (p-1)=0∨ls (jx s d) (p-1)∈ps s d p:=by rw[hl.last];exact Vk _ _
 have mem_upd:∀s' d' p',VV S L s' d' p'→∀y,y∈updQ ps s d p (ps s d p++[x]) s' d' p'→y∈ps s' d' p'∨(y=x∧s'=s∧d'=d∧p'=p):=by
  intro s' d' p' hv' y hy;by_cases e:s'=s∧d'=d∧p'=p
  ·obtain⟨rfl,rfl,rfl⟩:=e;rw[XK] at hy;rcases ZE.1 hy with hy|hy
   ·exact Or.inl hy
   ·exact Or.inr ⟨by simpa using hy,rfl,rfl,rfl⟩
  ·rw[Vf _ _ _ _ _ e] at hy;exact Or.inl hy
 refine⟨?_,?_,?_,?_,h.flt,h.fnd,?_⟩
 ·intro s' d' p' hv';by_cases e:s'=s∧d'=d∧p'=p
  ·obtain⟨rfl,rfl,rfl⟩:=e;rw[XK,TQ,TQ];exact hl.join hx (hf.1 _ _ _ hv')
  ·rw[Vf _ _ _ _ _ e,Zbf _ _ _ _ _ _ (hv.far hv' e),Zbf _ _ _ _ _ _ (hv.far hv' e)];have hyx:∀y∈ps s' d' p',y≠x:=λy hy e2=>hf.1 _ _ _ hv' (e2▸hy);have hyl:∀y∈ps s' d' p',y≠ls (jx s d) (p-1):=by
    intro y hy e2;rcases hlast with h0|h0
    ·exact h.ne0 hv' hy (e2.trans h0)
    ·exact e (h.dis _ _ _ _ _ _ hv hv' y (e2▸h0) hy)
   exact(h.line s' d' p' hv').congr (λy hy=>Xj _ _ _ _ (hyx y hy)) (λy hy=>by rw[Xj _ _ _ _ (hyl y hy),Xj _ _ _ _ (hyx y hy)])
 ·intro s' d' p' hv' y hy;rcases mem_upd s' d' p' hv' y hy with hy|⟨rfl,-⟩
  ·exact h.lt _ _ _ hv' y hy
  ·exact hxn
 ·intro s1 d1 p1 s2 d2 p2 hv1 hv2 y hy1 hy2;rcases mem_upd _ _ _ hv1 y hy1 with k1|⟨e0,e1,e2,e3⟩
  ·rcases mem_upd _ _ _ hv2 y hy2 with k2|⟨e0,e1,e2,e3⟩
   ·exact h.dis _ _ _ _ _ _ hv1 hv2 y k1 k2
   ·exact absurd k1 (e0▸hf.1 _ _ _ hv1)
  ·rcases mem_upd _ _ _ hv2 y hy2 with k2|⟨-,h1,h2,h3⟩
   ·exact absurd k2 (e0▸hf.1 _ _ _ hv2)
   ·exact⟨h1.trans e1.symm,h2.trans e2.symm,h3.trans e3.symm⟩
 ·refine h.free.congr (λy hy => ?_);have h1:y≠x:=λe=>hf.2 (e▸hy);have h2:y≠ls (jx s d) (p-1):=by
   intro e;rcases hlast with h0|h0
   ·exact h.free.ne y hy (e.trans h0)
   ·exact h.fdis _ _ _ hv y (e▸h0) hy
  rw[Xj _ _ _ _ h2,Xj _ _ _ _ h1]
 ·intro s' d' p' hv' y hy;rcases mem_upd s' d' p' hv' y hy with hy|⟨rfl,-⟩
  ·exact h.fdis _ _ _ hv' y hy
  ·exact hf.2
theorem Lk.leave (h:Lk S L n free fs ls bef aft ps fl)(hv:VV S L s d p){b:List Nat}(hab:ps s d p=a++x::b):
  Lk S L n free (upd2 fs (jx s d) (p-1) (if fs (jx s d) (p-1)=x then aft x else fs (jx s d) (p-1))) (upd2 ls (jx s d) (p-1) (if ls (jx s d) (p-1)=x then bef x else ls (jx s d) (p-1))) (updN bef (aft x) (bef x)) (updN aft (bef x) (aft x)) (updQ ps s d p (a++b)) fl∧
   Fresh S L (updQ ps s d p (a++b)) fl x∧(bef x=0∨bef x∈a)∧(aft x=0∨aft x∈b)∧bef x≠x∧aft x≠x:=by
 have hl:=h.line s d p hv;have hl':=hl;rw[hab] at hl';obtain⟨m1,m2,m3⟩:=hl'.chain.mid;have hnd:=hl'.nodup;rw[Ya] at hnd;have hxa:x∉a:=λe=>hnd.2.2 x e x (by simp) rfl;have hxb:x∉b:=(ZK.1 hnd.2.1).1;have hb:bef x=0∨bef x∈a:=by rw[m1];exact Vk _ _
 have ha:aft x=0∨aft x∈b:=by
  rw[m2];rcases b with _|⟨y,b⟩
  ·exact Or.inl rfl
  ·exact Or.inr (by simp)
 have mem_old:∀y,y∈a∨y∈b→y∈ps s d p:=by intro y hy;rw[hab];rcases hy with hy|hy<;>simp[hy]
 have mem_upd:∀s' d' p',VV S L s' d' p'→∀y,y∈updQ ps s d p (a++b) s' d' p'→y∈ps s' d' p':=by
  intro s' d' p' hv' y hy;by_cases e:s'=s∧d'=d∧p'=p
  ·obtain⟨rfl,rfl,rfl⟩:=e;rw[XK] at hy;exact mem_old y (ZE.1 hy)
  ·rw[Vf _ _ _ _ _ e] at hy;exact hy
 have hfr:Fresh S L (updQ ps s d p (a++b)) fl x:=by
  have hx:x∈ps s d p:=by rw[hab];simp
  refine⟨?_,h.fdis _ _ _ hv x hx⟩;intro s' d' p' hv' hm;by_cases e:s'=s∧d'=d∧p'=p
  ·obtain⟨rfl,rfl,rfl⟩:=e;rw[XK] at hm;rcases ZE.1 hm with hm|hm
   ·exact hxa hm
   ·exact hxb hm
  ·rw[Vf _ _ _ _ _ e] at hm;exact e (h.dis _ _ _ _ _ _ hv hv' x hx hm)
 refine⟨⟨?_,λs' d' p' hv' y hy=>h.lt _ _ _ hv' y (mem_upd _ _ _ hv' y hy),λs1 d1 p1 s2 d2 p2 hv1 hv2 y h1 h2=>h.dis _ _ _ _ _ _ hv1 hv2 y (mem_upd _ _ _ hv1 y h1) (mem_upd _ _ _ hv2 y h2),?_,h.flt,h.fnd,λs' d' p' hv' y hy=>h.fdis _ _ _ hv' y (mem_upd _ _ _ hv' y hy)⟩,hfr,hb,ha,?_,?_⟩
 ·intro s' d' p' hv';by_cases e:s'=s∧d'=d∧p'=p
  ·obtain⟨rfl,rfl,rfl⟩:=e;rw[XK,TQ,TQ];exact hl'.leave
  ·rw[Vf _ _ _ _ _ e,Zbf _ _ _ _ _ _ (hv.far hv' e),Zbf _ _ _ _ _ _ (hv.far hv' e)];have far:∀z,z=0∨z∈ps s d p→∀y∈ps s' d' p',y≠z:=by
    intro z hz y hy e2;rcases hz with h0|h0
    ·exact h.ne0 hv' hy (e2.trans h0)
    ·exact e (h.dis _ _ _ _ _ _ hv hv' y (e2▸h0) hy)
   exact(h.line s' d' p' hv').congr (λy hy=>Xj _ _ _ _ (far _ (ha.imp id (λq=>mem_old _ (Or.inr q))) y hy)) (λy hy=>Xj _ _ _ _ (far _ (hb.imp id (λq=>mem_old _ (Or.inl q))) y hy))
 ·refine h.free.congr (λy hy=>Xj _ _ _ _ ?_);intro e;rcases hb with h0|h0
  ·exact h.free.ne y hy (e.trans h0)
  ·exact h.fdis _ _ _ hv y (mem_old y (Or.inl (e▸h0))) hy
 ·intro e;rcases hb with h0|h0
  ·exact m3 (e.symm.trans h0)
  ·exact hxa (e▸h0)
 ·intro e;rcases ha with h0|h0
  ·exact m3 (e.symm.trans h0)
  ·exact hxb (e▸h0)
end
end
section
structure Ord  where
 ref:Nat
 qf:Nat
 qe:UInt8
 qd:Nat
 qc:Nat
 qa:Nat
structure St  where
 qk:Nat
 qj:Nat
 pool:Nat
 time:Nat
 opn:Bool
 part:List UInt8
 qg:Nat
 qi:Nat
 used:List Nat
 q:Nat→UInt8→Nat→List Ord
 ans:List UInt8
 tape:List UInt8
namespace St
def bids (st:St)(s:Nat):List Ord:=(List.range st.qj).flatMap λr=>st.q s 66 (st.qj-r)
def asks (st:St)(s:Nat):List Ord:=(List.range st.qj).flatMap λr=>st.q s 83 (r+1)
def book (st:St)(s:Nat):List Ord:=st.bids s++st.asks s
def all (st:St):List Ord:=(List.range st.qk).flatMap st.book
def ql (st:St):Nat:=st.all.length
def find (st:St)(t:Nat):Option Ord:=st.all.find? (·.qf==t)
def head (st:St)(c:UInt8):List UInt8:=c::enc st.time 6
def say (st:St)(l:List UInt8):St:={st with ans:=st.ans++l}
def put (st:St)(l:List UInt8):St:={st with tape:=st.tape++l}
def upd (st:St)(s:Nat)(d:UInt8)(p:Nat)(f:List Ord→List Ord):St:=
 {st with q:=λs' d' p'=>if s'=s∧d'=d∧p'=p then f (st.q s d p) else st.q s' d' p'}
end St
def redO (t n:Nat):List Ord→List Ord
 | []=>[]
 | x::l=>if x.qf=t then (if x.qa≤n then l else {x with qa:=x.qa-n}::l) else x::redO t n l
def delO (t:Nat):List Ord→List Ord
 | []=>[]
 | x::l=>if x.qf=t then l else x::delO t l
def subO (t:Nat)(y:Ord):List Ord→List Ord
 | []=>[]
 | x::l=>if x.qf=t then y::l else x::subO t y l
def other (d:UInt8):UInt8:=if d=66 then 83 else 66
def reaches (o:Ord)(p:Nat):Bool:=if o.qe=66 then p≤o.qc else o.qc≤p
namespace St
def ranked (st:St)(d:UInt8)(r:Nat):Nat:=if d=66 then st.qj-r else r+1
def meets (st:St)(o:Ord):Option Ord:=
 (List.range st.qj).findSome? λr=>
  if reaches o (st.ranked (other o.qe) r) then (st.q o.qd (other o.qe) (st.ranked (other o.qe) r)).head? else none
def fill (st:St)(t n p m:Nat):List UInt8:=st.head 70++enc t 4++enc n 2++enc p 2++enc m 4
def execute (st:St)(o f:Ord)(n:Nat):St:=
 let m:=(st.qi+1)%4294967296
 let st:={st with qi:=m}
 let st:=st.say (st.fill f.qf n f.qc m)
 let st:=st.say (st.fill o.qf n f.qc m)
 let st:=st.put (st.head 101++enc f.ref 4++enc n 2++enc m 4)
 st.upd f.qd f.qe f.qc (redO f.qf n)
def meet :Nat→St→Ord→St×Ord
 | 0,st,o=>(st,o)
 | k+1,st,o=>
  if o.qa=0 then (st,o) else
  match st.meets o with
  | none=>(st,o)
  | some f=>meet k (st.execute o f (min o.qa f.qa)) {o with qa:=o.qa-min o.qa f.qa}
def rest (st:St)(o:Ord):St:=
 (st.upd o.qd o.qe o.qc (·++[o])).put (st.head 97++enc o.ref 4++[o.qe,UInt8.ofNat o.qd]++enc o.qa 2++enc o.qc 2)
def why (st:St)(t:Nat)(qe:UInt8)(qd qc qa:Nat)(kind:UInt8):Option UInt8:=
 if t∈st.used then some 68
 else if qe≠66∧qe≠83 then some 66
 else if st.qk≤qd then some 83
 else if qc<1∨st.qj<qc then some 80
 else if qa<1∨9999<qa then some 81
 else if kind≠68∧kind≠73 then some 75
 else if kind=68∧st.pool≤st.ql then some 70
 else none
def reject (st:St)(t:Nat)(r:UInt8):St:=st.say (st.head 74++enc t 4++[r])
def cancelled (st:St)(t n:Nat)(r:UInt8):St:=st.say (st.head 88++enc t 4++enc n 2++[r])
def accept (st:St)(o:Ord)(kind:UInt8):St:=
 {st with qg:=o.ref,used:=o.qf::st.used}.say
  (st.head 65++enc o.qf 4++[o.qe,UInt8.ofNat o.qd]++enc o.qc 2++enc o.qa 2++[kind]++enc o.ref 4)
def enter (st:St)(t:Nat)(qe:UInt8)(qd qc qa:Nat)(kind:UInt8):St:=
 match st.why t qe qd qc qa kind with
 | some r=>st.reject t r
 | none=>
  let o:Ord:={ref:=(st.qg+1)%4294967296,qf:=t,qe,qd,qc,qa}
  let x:=(st.accept o kind).meet 65 o
  if x.2.qa=0 then x.1
  else if kind=68 then x.1.rest x.2
  else x.1.cancelled t x.2.qa 73
def cancel (st:St)(t n:Nat):St:=
 match st.find t with
 | none=>st
 | some o=>
  if o.qa≤n then st else
  let st:=st.cancelled t (o.qa-n) 85
  let st:=if n=0 then st.put (st.head 100++enc o.ref 4) else st.put (st.head 120++enc o.ref 4++enc (o.qa-n) 2)
  st.upd o.qd o.qe o.qc (redO t (o.qa-n))
def whyR (st:St)(t qc qa:Nat):Option UInt8:=
 if t∈st.used then some 68
 else if qc<1∨st.qj<qc then some 80
 else if qa<1∨9999<qa then some 81
 else none
def replace (st:St)(t n qc qa:Nat):St:=
 match st.find t with
 | none=>st
 | some o=>
  match st.whyR n qc qa with
  | some r=>st.reject n r
  | none=>
   let y:Ord:={o with ref:=(st.qg+1)%4294967296,qf:=n,qc,qa}
   let st:={st with qg:=y.ref,used:=n::st.used}.say (st.head 85++enc n 4++enc qc 2++enc qa 2++enc y.ref 4++enc t 4)
   match st.meets y with
   | none=>
    let st:=st.put (st.head 117++enc o.ref 4++enc y.ref 4++enc qa 2++enc qc 2)
    if qc=o.qc∧qa≤o.qa then st.upd o.qd o.qe o.qc (subO t y)
    else (st.upd o.qd o.qe o.qc (delO t)).upd o.qd o.qe qc (·++[y])
   | some _=>
    let st:=(st.put (st.head 100++enc o.ref 4)).upd o.qd o.qe o.qc (delO t)
    let x:=st.meet 65 y
    if x.2.qa=0 then x.1 else x.1.rest x.2
def shut (st:St):St:={st with opn:=false}.say (st.head 90)
end St
def at_ (m:List UInt8)(i n:Nat):Nat:=num ((m.drop i).take n) 0
def Xa (m:List UInt8)(i:Nat):UInt8:=m.getD i 0
def sizeOf (c:UInt8):Nat:=if c=69 then 12 else if c=82 then 13 else if c=67 then 7 else 1
namespace St
def act (st:St)(m:List UInt8):St:=
 if Xa m 0=69 then st.enter (at_ m 1 4) (Xa m 5) (Xa m 6).toNat (at_ m 7 2) (at_ m 9 2) (Xa m 11)
 else if Xa m 0=82 then st.replace (at_ m 1 4) (at_ m 5 4) (at_ m 9 2) (at_ m 11 2)
 else if Xa m 0=67 then st.cancel (at_ m 1 4) (at_ m 5 2)
 else st.shut
def step (st:St)(c:UInt8):St:=
 if st.opn then
  if (st.part++[c]).length=sizeOf (Xa (st.part++[c]) 0) then {st with part:=[]}.act (st.part++[c])
  else {st with part:=st.part++[c]}
 else st
def feed (st:St)(l:List UInt8):St:=l.foldl step st
def tick (st:St)(n:Nat):St:={st with time:=(st.time+n)%281474976710656}
def told (st:St):St:={st with ans:=[]}
def taped (st:St):St:={st with tape:=[]}
end St
def opened (qk qj pool:Nat):St:=
 {qk,qj,pool,time:=0,opn:=true,part:=[],qg:=0,qi:=0,used:=[],q:=λ_ _ _=>[],ans:=[79,0,0,0,0,0,0],tape:=[]}
theorem Vi (st:St)(a b:List UInt8):st.feed (a++b)=(st.feed a).feed b:=by simp[St.feed]
abbrev Co :=Nat×UInt8×Nat
def St.get (st:St)(c:Co):List Ord:=st.q c.1 c.2.1 c.2.2
def Zdh (n s:Nat):List Co:=(List.range n).map λr=>(s,66,n-r)
def Zdq (n s:Nat):List Co:=(List.range n).map λr=>(s,83,r+1)
def Uj (n s:Nat):List Co:=Zdh n s++Zdq n s
def VG (m n:Nat):List Co:=(List.range m).flatMap (Uj n)
theorem bids_eq (st:St)(s:Nat):st.bids s=(Zdh st.qj s).flatMap st.get:=by simp[St.bids,Zdh,List.flatMap_map,St.get]
theorem asks_eq (st:St)(s:Nat):st.asks s=(Zdq st.qj s).flatMap st.get:=by simp[St.asks,Zdq,List.flatMap_map,St.get]
theorem Zji (st:St)(s:Nat):st.book s=(Uj st.qj s).flatMap st.get:=by simp[St.book,bids_eq,asks_eq,Uj]
theorem VW (st:St):st.all=(VG st.qk st.qj).flatMap st.get:=by
 rw[VG,List.flatMap_assoc];unfold St.all
 congr 1
 funext s
 exact Zji st s
theorem UU (n s:Nat)(c:Co):c∈Uj n s↔c.1=s∧(c.2.1=66∨c.2.1=83)∧1≤c.2.2∧c.2.2≤n:=by
 obtain⟨a,d,p⟩:=c;simp only[Uj,Zdh,Zdq,ZE,ZP,YR,Prod.mk.injEq];constructor
 ·rintro(⟨r,h,rfl,rfl,rfl⟩|⟨r,h,rfl,rfl,rfl⟩)
  ·exact⟨rfl,.inl rfl,by omega,by omega⟩
  ·exact⟨rfl,.inr rfl,by omega,by omega⟩
 ·rintro⟨rfl,rfl|rfl,h1,h2⟩
  ·exact .inl ⟨n-p,by omega,rfl,rfl,by omega⟩
  ·exact .inr ⟨p-1,by omega,rfl,rfl,by omega⟩
theorem Ue (m n:Nat)(c:Co):c∈VG m n↔c.1<m∧(c.2.1=66∨c.2.1=83)∧1≤c.2.2∧c.2.2≤n:=by
 simp only[VG,List.mem_flatMap,YR,UU];constructor
 ·rintro⟨s,h1,h2,h3⟩;exact⟨h2▸h1,h3⟩
 ·rintro⟨h1,h2⟩;exact⟨c.1,h1,rfl,h2⟩
theorem UD {β:Type}(f:α→β)(l:List α)(hl:l.Nodup)(hf:∀a∈l,∀b∈l,f a=f b→a=b):(l.map f).Nodup:=by
 induction l with
 | nil=>simp
 | cons x l ih=>
  rw[ZK] at hl;rw[ZV,ZK];refine⟨?_,ih hl.2 (λa ha b hb=>hf a (by simp[ha]) b (by simp[hb]))⟩;intro h;obtain⟨y,hy,e⟩:=ZP.1 h;have:=hf y (by simp[hy]) x (by simp) e;exact hl.1 (this▸hy)
theorem Zfb (n s:Nat):(Uj n s).Nodup:=by
 unfold Uj;rw[Ya];refine⟨?_,?_,?_⟩
 ·exact UD _ _ List.nodup_range (λa ha b hb h=>by simp at ha hb h;omega)
 ·exact UD _ _ List.nodup_range (λa ha b hb h=>by simp at h;omega)
 ·intro a ha b hb h;simp only[Zdh,Zdq,ZP] at ha hb;obtain⟨r,_,rfl⟩:=ha;obtain⟨t,_,rfl⟩:=hb;have:=congrArg (λc:Co=>c.2.1) h;revert this;show(66:UInt8)=83→False;decide
theorem Za3 (m n:Nat):(VG m n).Nodup:=by
 induction m with
 | zero=>simp[VG]
 | succ m ih=>
  have:VG (m+1) n=VG m n++Uj n m:=by simp[VG,List.range_succ]
  rw[this,Ya];refine⟨ih,Zfb n m,?_⟩;intro a ha b hb h;subst h;have h1:=(Ue m n a).1 ha;have h2:=(UU n m a).1 hb;omega
theorem Zd6 (l:List α)(c:α)(hn:l.Nodup)(h:c∈l):∃l1 l2,l=l1++c::l2∧c∉l1∧c∉l2:=by obtain⟨l1,l2,rfl⟩:=YV h;rw[Ya] at hn;obtain⟨_,h2,h3⟩:=hn;rw[ZK] at h2;exact⟨l1,l2,rfl,λhc=>h3 c hc c (by simp) rfl,h2.1⟩
theorem XN {β:Type}(l:List α)(f g:α→List β)(h:∀a∈l,f a=g a):l.flatMap f=l.flatMap g:=by
 induction l with
 | nil=>rfl
 | cons x l ih=>
  rw[Yk,Yk,h x (by simp),ih (λa ha=>h a (by simp[ha]))]
theorem TV (st:St)(s:Nat)(d:UInt8)(p:Nat)(f:List Ord→List Ord)(c:Co):(st.upd s d p f).get c=if c=(s,d,p) then f (st.q s d p) else st.get c:=by obtain⟨a,e,r⟩:=c;simp[St.get,St.upd]
theorem flat_upd (st:St)(l:List Co)(hl:l.Nodup)(s:Nat)(d:UInt8)(p:Nat)(h:(s,d,p)∈l):
  ∃A B,l.flatMap st.get=A++st.q s d p++B∧∀f:List Ord→List Ord,l.flatMap (st.upd s d p f).get=A++f (st.q s d p)++B:=by
 obtain⟨l1,l2,rfl,h1,h2⟩:=Zd6 l (s,d,p) hl h;refine⟨l1.flatMap st.get,l2.flatMap st.get,?_,?_⟩
 ·rw[Yd,Yk,←Zo];rfl
 ·intro f;rw[Yd,Yk,←Zo];rw[XN l1 (st.upd s d p f).get st.get (λa ha=>by rw[TV,Zj (by rintro rfl;exact h1 ha)])];rw[XN l2 (st.upd s d p f).get st.get (λa ha=>by rw[TV,Zj (by rintro rfl;exact h2 ha)])];rw[TV,Zg rfl]
theorem Uc (st:St)(s:Nat)(d:UInt8)(p:Nat)(h:s<st.qk∧(d=66∨d=83)∧1≤p∧p≤st.qj):
  ∃A B,st.all=A++st.q s d p++B∧∀f:List Ord→List Ord,(st.upd s d p f).all=A++f (st.q s d p)++B:=by
 obtain⟨A,B,h1,h2⟩:=flat_upd st (VG st.qk st.qj) (Za3 _ _) s d p ((Ue _ _ _).2 h);refine⟨A,B,by rw[VW,h1],λf => ?_⟩;rw[VW];exact h2 f
theorem mem_all (st:St)(x:Ord):x∈st.all↔∃s d p,s<st.qk∧(d=66∨d=83)∧1≤p∧p≤st.qj∧x∈st.q s d p:=by
 rw[VW,List.mem_flatMap];constructor
 ·rintro⟨⟨s,d,p⟩,h1,h2⟩;obtain⟨a,b,c,e⟩:=(Ue _ _ _).1 h1;exact⟨s,d,p,a,b,c,e,h2⟩
 ·rintro⟨s,d,p,a,b,c,e,h2⟩;exact⟨(s,d,p),(Ue _ _ _).2 ⟨a,b,c,e⟩,h2⟩
def Valid (st:St)(s:Nat)(d:UInt8)(p:Nat):Prop:=s<st.qk∧(d=66∨d=83)∧1≤p∧p≤st.qj
structure Fits (s:Nat)(d:UInt8)(p:Nat)(x:Ord):Prop where
 qd:x.qd=s
 qe:x.qe=d
 qc:x.qc=p
 least:1≤x.qa
 most:x.qa≤9999
 ref:x.ref<4294967296
 qf:x.qf<4294967296
structure Inv (st:St):Prop where
 qk:1≤st.qk∧st.qk≤8
 qj:1≤st.qj∧st.qj≤64
 pool:1≤st.pool∧st.pool≤64
 ord:∀s d p x,x∈st.q s d p→Fits s d p x
 ok:∀s d p,st.q s d p≠[]→Valid st s d p
 nodup:(st.all.map (·.qf)).Nodup
 used:∀x∈st.all,x.qf∈st.used
 room:st.ql≤st.pool
 unc:∀s pb pa,st.q s 66 pb≠[]→st.q s 83 pa≠[]→pb<pa
 qg:st.qg<4294967296
 qi:st.qi<4294967296
 time:st.time<281474976710656
theorem Inv.of_q {st st':St}(h:Inv st)(hq:st'.q=st.q)(h1:st'.qk=st.qk)(h2:st'.qj=st.qj)(h3:st'.pool=st.pool)(h4:∀t,t∈st.used→t∈st'.used)
  (h5:st'.qg<4294967296) (h6:st'.qi<4294967296) (h7:st'.time<281474976710656):Inv st':=by
 have ha:st'.all=st.all:=by
  unfold St.all;rw[h1]
  congr 1
  funext s
  simp only[St.book,St.bids,St.asks,hq,h2]
 refine⟨h1▸h.qk,h2▸h.qj,h3▸h.pool,?_,?_,?_,?_,?_,?_,h5,h6,h7⟩
 ·rw[hq];exact h.ord
 ·intro s d p hne;rw[hq] at hne;have:=h.ok s d p hne;unfold Valid at *;rw[h1,h2];exact this
 ·rw[ha];exact h.nodup
 ·rw[ha];exact λx hx=>h4 _ (h.used x hx)
 ·unfold St.ql at *;rw[ha,h3];exact h.room
 ·rw[hq];exact h.unc
theorem Inv.say {st:St}(h:Inv st)(l:List UInt8):Inv (st.say l):=h.of_q rfl rfl rfl rfl (λ_ h=>h) h.qg h.qi h.time
theorem Inv.put {st:St}(h:Inv st)(l:List UInt8):Inv (st.put l):=h.of_q rfl rfl rfl rfl (λ_ h=>h) h.qg h.qi h.time
theorem Inv.shrink {st:St}(h:Inv st)(s:Nat)(d:UInt8)(p:Nat)(f:List Ord→List Ord)(hv:Valid st s d p)
  (hm:∀y∈f (st.q s d p),∃x∈st.q s d p,y.qf=x.qf∧y.ref=x.ref∧y.qd=x.qd∧y.qe=x.qe∧y.qc=x.qc∧1≤y.qa∧y.qa≤x.qa)
  (hs:((f (st.q s d p)).map (·.qf)).Sublist ((st.q s d p).map (·.qf))):Inv (st.upd s d p f):=by
 obtain⟨A,B,h1,h2⟩:=Uc st s d p hv;have h2:=h2 f;have hsub:((st.upd s d p f).all.map (·.qf)).Sublist (st.all.map (·.qf)):=by rw[h1,h2];simp only[ZH];exact(List.Sublist.refl _).append hs |>.append (List.Sublist.refl _)
 have hq:∀s' d' p',(st.upd s d p f).q s' d' p'=if s'=s∧d'=d∧p'=p then f (st.q s d p) else st.q s' d' p':=λ_ _ _=>rfl
 have hne:∀s' d' p',(st.upd s d p f).q s' d' p'≠[]→st.q s' d' p'≠[]:=by
  intro s' d' p' hn;rw[hq] at hn;split at hn
  ·rename_i hc;obtain⟨rfl,rfl,rfl⟩:=hc;obtain⟨y,hy⟩:=List.exists_mem_of_ne_nil _ hn;obtain⟨x,hx,_⟩:=hm y hy;exact List.ne_nil_of_mem hx
  ·exact hn
 refine⟨h.qk,h.qj,h.pool,?_,?_,hsub.nodup h.nodup,?_,?_,?_,h.qg,h.qi,h.time⟩
 ·intro s' d' p' y hy;rw[hq] at hy;split at hy
  ·rename_i hc;obtain⟨rfl,rfl,rfl⟩:=hc;obtain⟨x,hx,e1,e2,e3,e4,e5,e6,e7⟩:=hm y hy;have:=h.ord _ _ _ x hx;exact⟨e3.trans this.qd,e4.trans this.qe,e5.trans this.qc,e6,Zw e7 this.most,e2▸this.ref,e1▸this.qf⟩
  ·exact h.ord _ _ _ y hy
 ·intro s' d' p' hn;exact h.ok _ _ _ (hne _ _ _ hn)
 ·intro y hy;have:y.qf∈st.all.map (·.qf):=hsub.subset (ZP.2 ⟨y,hy,rfl⟩);obtain⟨x,hx,e⟩:=ZP.1 this;have e:x.qf=y.qf:=e;exact e▸h.used x hx
 ·have:=hsub.length_le;simp only[Yl] at this;exact Zw this h.room
 ·intro s' pb pa hb ha;exact h.unc s' pb pa (hne _ _ _ hb) (hne _ _ _ ha)
theorem red_mem (t n:Nat)(l:List Ord)(hl:∀x∈l,1≤x.qa)(y:Ord)(hy:y∈redO t n l):
  ∃x∈l,y.qf=x.qf∧y.ref=x.ref∧y.qd=x.qd∧y.qe=x.qe∧y.qc=x.qc∧1≤y.qa∧y.qa≤x.qa:=by
 induction l with
 | nil=>simp[redO] at hy
 | cons x l ih=>
  simp only[redO] at hy;split at hy
  ·split at hy
   ·exact⟨y,by simp[hy],rfl,rfl,rfl,rfl,rfl,hl y (by simp[hy]),Zh _⟩
   ·rcases ZL.1 hy with rfl|hy
    ·exact⟨x,by simp,rfl,rfl,rfl,rfl,rfl,by show 1≤x.qa-n;omega,by show x.qa-n≤x.qa;omega⟩
    ·exact⟨y,by simp[hy],rfl,rfl,rfl,rfl,rfl,hl y (by simp[hy]),Zh _⟩
  ·rcases ZL.1 hy with rfl|hy
   ·exact⟨y,by simp,rfl,rfl,rfl,rfl,rfl,hl y (by simp),Zh _⟩
   ·obtain⟨z,hz,e⟩:=ih (λx hx=>hl x (by simp[hx])) hy;exact⟨z,by simp[hz],e⟩
theorem Zi6 (t n:Nat)(l:List Ord):((redO t n l).map (·.qf)).Sublist (l.map (·.qf)):=by
 induction l with
 | nil=>simp[redO]
 | cons x l ih=>
  simp only[redO];split
  ·split
   ·simp
   ·simp
  ·simpa using ih
theorem Zbh (t:Nat)(l:List Ord):(delO t l).Sublist l:=by
 induction l with
 | nil=>simp[delO]
 | cons x l ih=>
  simp only[delO];split
  ·simp
  ·simpa using ih
theorem Inv.red {st:St}(h:Inv st)(s:Nat)(d:UInt8)(p:Nat)(t n:Nat)(hv:Valid st s d p):Inv (st.upd s d p (redO t n)):=
 h.shrink s d p _ hv (λy hy=>red_mem t n _ (λx hx=>(h.ord s d p x hx).least) y hy) (Zi6 t n _)
theorem Inv.del {st:St}(h:Inv st)(s:Nat)(d:UInt8)(p:Nat)(t:Nat)(hv:Valid st s d p):Inv (st.upd s d p (delO t)):=
 h.shrink s d p _ hv (λy hy=>⟨y,(Zbh t _).subset hy,rfl,rfl,rfl,rfl,rfl,(h.ord s d p y ((Zbh t _).subset hy)).least,Zh _⟩) ((Zbh t _).map _)
theorem Inv.push {st:St}(h:Inv st)(o:Ord)(hv:Valid st o.qd o.qe o.qc)(h1:1≤o.qa)(h2:o.qa≤9999)(h3:o.ref<4294967296)(h4:o.qf<4294967296)
  (hu:o.qf∈st.used) (hn:∀x∈st.all,x.qf≠o.qf) (hr:st.ql<st.pool) (hx:∀p,st.q o.qd (other o.qe) p≠[]→reaches o p=false):
  Inv (st.upd o.qd o.qe o.qc (·++[o])):=by
 obtain⟨A,B,e1,e2⟩:=Uc st o.qd o.qe o.qc hv;have e2:=e2 (·++[o]);have hperm:(st.upd o.qd o.qe o.qc (·++[o])).all.Perm (o::st.all):=by rw[e1,e2];simp only[Zo,List.singleton_append];rw[←Zo,←Zo];exact List.perm_middle
 have hq:∀s' d' p',(st.upd o.qd o.qe o.qc (·++[o])).q s' d' p'=if s'=o.qd∧d'=o.qe∧p'=o.qc then st.q o.qd o.qe o.qc++[o] else st.q s' d' p':=λ_ _ _=>rfl
 refine⟨h.qk,h.qj,h.pool,?_,?_,?_,?_,?_,?_,h.qg,h.qi,h.time⟩
 ·intro s d p y hy;rw[hq] at hy;split at hy
  ·rename_i hc;obtain⟨rfl,rfl,rfl⟩:=hc;rcases ZE.1 hy with hy|hy
   ·exact h.ord _ _ _ y hy
   ·simp at hy;subst hy;exact⟨rfl,rfl,rfl,h1,h2,h3,h4⟩
  ·exact h.ord _ _ _ y hy
 ·intro s d p hne;rw[hq] at hne;split at hne
  ·rename_i hc;obtain⟨rfl,rfl,rfl⟩:=hc;exact hv
  ·exact h.ok _ _ _ hne
 ·rw[(hperm.map (·.qf)).nodup_iff,ZV,ZK];refine⟨λhm => ?_,h.nodup⟩;obtain⟨x,hx',e⟩:=ZP.1 hm;exact hn x hx' e
 ·intro x hx';rcases ZL.1 (hperm.subset hx') with rfl|hx'
  ·exact hu
  ·exact h.used x hx'
 ·have:=hperm.length_eq;simp only[Zu] at this;show(st.upd o.qd o.qe o.qc (·++[o])).all.length≤st.pool;have hr':st.all.length<st.pool:=hr;omega
 ·intro s pb pa hb ha;rw[hq] at hb ha;split at hb
  ·rename_i hc;obtain⟨rfl,hd,rfl⟩:=hc;rw[Zj (by rw[←hd];intro hc;exact absurd hc.2.1 (by decide))] at ha;have:=hx pa (by rw[←hd];exact ha);simp only[reaches,←hd,Zg] at this;simpa using this
  ·split at ha
   ·rename_i hc;obtain⟨rfl,hd,rfl⟩:=hc;have:=hx pb (by rw[←hd];exact hb);simp only[reaches,←hd] at this;simpa using this
   ·exact h.unc _ _ _ hb ha
theorem Zbt {st:St}{o f:Ord}(h:st.meets o=some f):∃r,r<st.qj∧reaches o (st.ranked (other o.qe) r)=true∧(st.q o.qd (other o.qe) (st.ranked (other o.qe) r)).head?=some f∧
  ∀r',r'<r→reaches o (st.ranked (other o.qe) r')=true→st.q o.qd (other o.qe) (st.ranked (other o.qe) r')=[]:=by
 unfold St.meets at h;obtain⟨l1,r,l2,e,h1,h2⟩:=List.findSome?_eq_some_iff.1 h;have hr:(List.range st.qj)[l1.length]?=some r:=by rw[e];simp
 rw[List.getElem?_range] at hr
 ·cases hr;split at h1
  ·rename_i hrc;refine⟨l1.length,?_,hrc,h1,?_⟩
   ·have:=congrArg List.length e;simp at this;omega
   ·intro r' hr' hre;have hm:r'∈l1:=by
     have:(List.range st.qj)[r']?=l1[r']?:=by rw[e,Ye hr']
     have hlt:r'<st.qj:=by have:=congrArg List.length e;simp at this;omega
     rw[List.getElem?_range hlt] at this;exact ZW this.symm
    have:=h2 r' hm;rw[Zg hre] at this;simpa using this
  ·cases h1
 ·have:=congrArg List.length e;simp at this;omega
theorem Uh {st:St}{o:Ord}(h:st.meets o=none)(r:Nat)(hr:r<st.qj)(hc:reaches o (st.ranked (other o.qe) r)=true):st.q o.qd (other o.qe) (st.ranked (other o.qe) r)=[]:=by unfold St.meets at h;have:=List.findSome?_eq_none_iff.1 h r (by simp[hr]);rw[Zg hc] at this;simpa using this
theorem Ug (st:St)(d:UInt8)(p:Nat)(h1:1≤p)(h2:p≤st.qj):∃r,r<st.qj∧st.ranked d r=p:=by
 unfold St.ranked;by_cases hd:d=66
 ·exact⟨st.qj-p,by omega,by rw[Zg hd];omega⟩
 ·exact⟨p-1,by omega,by rw[Zj hd];omega⟩
theorem TD (d:UInt8):other d=66∨other d=83:=by
 unfold other;split
 ·exact .inr rfl
 ·exact .inl rfl
end
end Go.Proofs.YtphkchjejbffeaaGreat
