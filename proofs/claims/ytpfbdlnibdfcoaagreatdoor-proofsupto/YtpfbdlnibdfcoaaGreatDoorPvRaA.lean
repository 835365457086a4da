import Derived.Test.YtpfbdlnibdfcoaaGreatDoorPvTwoS
namespace Go.Proofs.YtpfbdlnibdfcoaaGreatDoor
open Go.RowKit Tryz
open Value renaming int->Ia,string->La,slice->Ma,bool->Oa,pointer->Qa,agg->Sa,tuple->Wa,iface->ca,nilIface->da
open IntKind renaming i64->ka
open Obj renaming cells->ma
open Ending renaming returned->na
open Tryz renaming prog->oa
set_option maxRecDepth 100000
set_option maxHeartbeats 0
theorem Di:(oa.info? 91).map (·.size)=some 4:=by kernel_rfl
abbrev Kz(e a:Nat):List Value:=[Ia ka (e:Int),Ia ka 0,Ia ka 0,Ia ka (a:Int)]
theorem cl(e a:Nat):(Kz e a).toArray.all (·.oneCell')=true:=by rw[List.all_toArray,Xy];intro u b;simp only[Yf,Vi,or_false]at b;rcases b with rfl|rfl|rfl|rfl<;>rfl
theorem xR(e a:Nat):Ki e 0 0 a=Sa (Kz e a).toArray:=rfl
variable{w W:Fa}{e a:Nat}
theorem SE.result{w2:Fa}{r0 r1:Nat}{L:List Value}{tmps:Array Value}{fn:Func}{p q:Tmp}(h:SE w2 r0 r1 L (Kz e a) true true W)(hL:L.length=66)(hb:Ba w w2)(h0:w.heap.size<=r0)(h1:w.heap.size<=r1)(hf:fn.results=#[.cell p 46,.cell q 91])(hp:tmps.getD p undef=Qa (some ⟨r0,0,none⟩))(hq:tmps.getD q undef=Qa (some ⟨r1,0,none⟩)):(results fn tmps).run oa W=.ok (Wa #[Sa L.toArray,Ki e 0 0 a]) W/\Ba w W:=⟨qB hf tmps _ _ r0 r1 hp hq (Yg _ _ _ 46 _ _ (h.d0 rfl) underlying46 rfl (by rw[hL];exact qh)) (Yg _ _ _ 91 _ _ (h.d1 rfl) underlying91 rfl Di),h.below hb h0 h1⟩
structure DA(w:Fa)(xb:Nat)(X:List Value)(er ea:Nat)(W:Fa):Prop where
 below:Ba w W
 r0:W.there w.heap.size 0 66
 r1:W.there (w.heap.size+1) 0 4
 a:Lb W (w.heap.size+2) (Ku Kk)
 x:Lb W xb X
 f:Lb W (xb+1) (Kz er ea)
 tu:w.heap.size+3<=xb
variable{X:List Value}
theorem DA.step{xb:Nat}{W':Fa}(h:DA w xb X e a W)(hb:Ba W W'):DA w xb X e a W':=by have d:=h.a.1;have g:=h.below.size;have b:=hb.block w.heap.size (by omega);have c:=hb.block (w.heap.size+1) (by omega);exact⟨Below.behind h.below hb,ve h.r0 b,ve h.r1 c,h.a.below hb,h.x.below hb,h.f.below hb,h.tu⟩
theorem ol:(Ku Kk).length=66:=by kernel_rfl
theorem kB:(Ku Kk).toArray.all (·.oneCell')=true:=by kernel_rfl
theorem DA.start{w1:Fa}{t u:TypeId}(hb1:Below (((w.alloc (ma (Ku Kk).toArray 46)).alloc (ma (Kz 0 0).toArray 91)).alloc (ma (Ku Kk).toArray 46)).heap.size (((w.alloc (ma (Ku Kk).toArray 46)).alloc (ma (Kz 0 0).toArray 91)).alloc (ma (Ku Kk).toArray 46)) w1):DA w w1.heap.size X e a ((w1.alloc (ma X.toArray t)).alloc (ma (Kz e a).toArray u)):=by
 have g:=hb1.size;simp only[Yz]at g;have c:Ba w1 ((w1.alloc (ma X.toArray t)).alloc (ma (Kz e a).toArray u)):=((Zb _ _).alloc (Za _) _).alloc (by simp) _;have k:=(((Lb.fresh w (Ku Kk) 46).alloc (ma (Kz 0 0).toArray 91)).alloc (ma (Ku Kk).toArray 46)).below hb1|>.below c;have d:=((Lb.fresh (w.alloc (ma (Ku Kk).toArray 46)) (Kz 0 0) 91).alloc (ma (Ku Kk).toArray 46)).below hb1|>.below c;have f:=(Lb.fresh ((w.alloc (ma (Ku Kk).toArray 46)).alloc (ma (Kz 0 0).toArray 91)) (Ku Kk) 46).below hb1|>.below c;simp only[Yz]at d f;have i:∀{W:Fa} {b:Nat} {cs:List Value},Lb W b cs->W.there b 0 cs.length:=λh j l=>by have :=h.2 j _ (Zk l);rw[Zf];exact⟨by rw[this.1];rfl,this.2⟩
 refine⟨Below.behind (Below.behind ((((Zb _ _).alloc (Za _) _).alloc (by simp) _).alloc (by simp;omega) _) hb1) c,?_,i d,f,(Lb.fresh w1 X t).alloc _,?_,by omega⟩;.have :=i k;rw[ol]at this;exact this
 .have :=Lb.fresh (w1.alloc (ma X.toArray t)) (Kz e a) u;rw[Yz]at this;exact this
theorem UA:(Ku Kk).toArray=zeroCells46:=by kernel_rfl
theorem GS(s:Da)(w:Fa)(fr en:Nat)(l:Bool)(tx:Da)(p:Option Addr)(m c e a:Nat)(he:0<e)(hD:∀W,Calls oa 79 #[La s] W λr w'=>Ba W w'/\r=na (Wa #[Aa ⟨fr,en,l,tx,Ma p m c⟩,Ki e 0 0 a])):Calls oa 40 #[La s] w (Hp (Wa #[Sa (Ku Kk).toArray,Ki e 0 0 a]) w):=by
 have z:=Hq hD;have C:((e:Int) != 0)=true:=by simp;omega
 have B:((e:Int)==0)=false:=by simp;omega
 clear hD he;go_enter func40,ntmps40;go_wp2_with fail
 refine(z _).mono ?_;rintro r y ⟨d,rfl⟩;rw[<-UA]at d;have g:=DA.start (X:=Ni ⟨fr,en,l,tx,Ma p m c⟩) (e:=e) (a:=a) (t:=152) (u:=91) d;clear d;rw[xR];go_wp2_with fail
 refine Vj (by kernel_rfl) ?_;change wpAny _ _ _ _ _ _ _ (World.drew _);obtain⟨xb,n⟩:=nm y.heap.size;generalize World.alloc (World.alloc y _) _=W at g⊢;rw[n]at g⊢;have b:=Hq g;clear g n;have x:=b.tu;have k:SE W w.heap.size (w.heap.size+1) (Ku Kk) (Kz e a) false false W.drew:=(SE.start (by rw[ol];exact b.r0) b.r1).drew;refine SE.two k (by omega) rfl (by kernel_rfl) (by kernel_rfl) rfl rfl rfl rfl rfl rfl (by kernel_rfl) (by kernel_rfl) (by kernel_rfl) (by kernel_rfl) rfl rfl (by simp) (by simp) (by rw[ol];exact qh) Di kB (cl e a) (Om rfl (by kernel_rfl) rfl underlying46 rfl (by rw[ol];exact qh) λq ⟨_,_,h⟩=>h.range (λj u o=>by rw[Zf];exact(b.a.2 j u o).1) (by omega) (by omega)) (Om rfl (by kernel_rfl) rfl underlying91 rfl Di λq ⟨_,_,h⟩=>h.range (λj u o=>by rw[Zf];exact(b.f.2 j u o).1) (by omega) (by omega)) λq i=>?_;simp only[Act.put,Yn,Y9,Yw];clear k x;go_wp2_with fail
 exact Zv (v:=Wa #[Sa (Ku Kk).toArray,Ki e 0 0 a]) (i.result ol b.below (Za _) (by omega) results40 rfl rfl).1 rfl ⟨rfl,i.below b.below (Za _) (by omega)⟩
theorem aM(s:Da)(w:Fa)(hD:∀W,Calls oa 79 #[La s] W λr w'=>Ba W w'/\∃(fr en:Nat) (l:Bool) (tx:Da) (p:Option Addr) (m c:Nat),(l=false\/m≠4)/\r=na (Wa #[Aa ⟨fr,en,l,tx,Ma p m c⟩,Ki 0 0 0 0])):Calls oa 40 #[La s] w (Hp (Wa #[Sa (Ku Kk).toArray,Ki 13 0 0 0]) w):=by
 have J:=Hq hD;clear hD;go_enter func40,ntmps40;go_wp2_with fail
 refine(J _).mono ?_;rintro r I ⟨C,fr,en,l,tx,p,m,c,G,rfl⟩;rw[<-UA]at C;have H:=DA.start (X:=Ni ⟨fr,en,l,tx,Ma p m c⟩) (e:=0) (a:=0) (t:=152) (u:=91) C;clear C;rw[show Ki 0 0 0 0=Value.agg #[Ia ka 0,Ia ka 0,Ia ka 0,Ia ka 0]from rfl];go_upto_region 3 with fail
 obtain⟨xb,E⟩:=nm I.heap.size;generalize hWW:World.alloc (World.alloc I _) _=W;have b:Hid (DA w xb (Ni ⟨fr,en,l,tx,Ma p m c⟩) 0 0 W):=by rw[<-E,<-hWW];exact H
 rw[E];clear H E hWW;have O:W.cell? ⟨xb+1,0,none⟩=some (Ia ka 0):=(b.f.2 0 _ rfl).1;have P:=(b.x.2 0 _ rfl).1;have Q:=(b.x.2 2 _ rfl).1;have k:W.rangeAt (w.heap.size+2) 0 (Ku Kk):=λj u M=>by rw[Zf];exact(b.a.2 j u M).1
 have z:SE W w.heap.size (w.heap.size+1) (Ku Kk) (Kz 13 0) false false W:=SE.start (by rw[ol];exact b.r0) b.r1;have D:w.heap.size≠w.heap.size+1:=by omega
 have B:=z.Dj D;have F:=B.ui D;have h:Aside (SE W w.heap.size (w.heap.size+1) (Ku Kk) (Kz 13 0) true true ((W.setCells w.heap.size 0 (Ku Kk)).setCells (w.heap.size+1) 0 (Kz 13 0))):=F;have n:W.there w.heap.size 0 (Ku Kk).toArray.size:=by rw[Ym];exact z.t0
 have o:(W.setCells w.heap.size 0 (Ku Kk)).there (w.heap.size+1) 0 (Kz 13 0).toArray.size:=B.t1;clear z B F D;have g:(oa.info? 46).map (·.size)=some (Ku Kk).length:=by rw[ol];exact qh
 have q:(oa.info? 46).map (·.size)=some (Ku Kk).toArray.size:=by rw[Ym];exact g
 have i:=kB;have d:Hid ((Ku Kk).length=66):=ol;generalize hLe:Ku Kk=L at k n o g q i h d;have y:=Hq hLe;clear hLe;rcases G with rfl|hm
 .go_wp2_with (first
   | (refine Zr rfl 46 _ rfl (w.heap.size+1+1) 0 rfl L _ k underlying46 rfl g ?_)
   | (refine Zs rfl 46 _ _ rfl w.heap.size 0 L.toArray rfl rfl n q i ?_)
   | (refine Zs rfl 91 _ _ rfl (w.heap.size+1) 0 (Kz 13 0).toArray rfl rfl o Di (cl 13 0) ?_))
  exact Zv (v:=Wa #[Sa L.toArray,Ki 13 0 0 0]) (h.result d b.below (Za _) (by omega) results40 rfl rfl).1 rfl ⟨by rw[y.o],h.below b.below (Za _) (by omega)⟩
 .have N:((m:Int)==4)=false:=by simp;omega
  have K:((m:Int) != 4)=true:=by simp;omega
  clear hm;cases l with
  |false=>
   go_wp2_with (first
    | (refine Zr rfl 46 _ rfl (w.heap.size+1+1) 0 rfl L _ k underlying46 rfl g ?_)
    | (refine Zs rfl 46 _ _ rfl w.heap.size 0 L.toArray rfl rfl n q i ?_)
    | (refine Zs rfl 91 _ _ rfl (w.heap.size+1) 0 (Kz 13 0).toArray rfl rfl o Di (cl 13 0) ?_))
   exact Zv (v:=Wa #[Sa L.toArray,Ki 13 0 0 0]) (h.result d b.below (Za _) (by omega) results40 rfl rfl).1 rfl ⟨by rw[y.o],h.below b.below (Za _) (by omega)⟩
  |true=>
   go_wp2_with (first
    | (refine Zr rfl 46 _ rfl (w.heap.size+1+1) 0 rfl L _ k underlying46 rfl g ?_)
    | (refine Zs rfl 46 _ _ rfl w.heap.size 0 L.toArray rfl rfl n q i ?_)
    | (refine Zs rfl 91 _ _ rfl (w.heap.size+1) 0 (Kz 13 0).toArray rfl rfl o Di (cl 13 0) ?_))
   exact Zv (v:=Wa #[Sa L.toArray,Ki 13 0 0 0]) (h.result d b.below (Za _) (by omega) results40 rfl rfl).1 rfl ⟨by rw[y.o],h.below b.below (Za _) (by omega)⟩
def Ga(k:Nat)(e:El):Bool:=if k<2 then !(decide (G2 e.mc (Ke e.text)))else !(decide (e.mc=false/\e.text.size=32))
variable{k:Nat}
theorem JA{e:El}(hk:k<2)(h:¬G2 e.mc (Ke e.text)):Ga k e=true:=by unfold Ga;rw[Zo hk,Zt h];rfl
theorem BE{e:El}(hk:k<2)(h:G2 e.mc (Ke e.text)):Ga k e=false:=by unfold Ga;rw[Zo hk,Z5 h];rfl
theorem AE(k:Nat)(e:El)(h:e.mc=true):Ga k e=true:=by
 by_cases a:k<2;.exact JA a λb=>by have :=b.1;rw[h]at this;cases this
 .unfold Ga;rw[Zj a];simp[h]
theorem uP(k:Nat)(e:El)(hk:k<2)(h:8<e.text.size):Ga k e=true:=JA hk λh2=>by have :=h2.2.1;rw[ta]at this;omega
theorem DR(k:Nat)(e:El)(hk:k<2)(hl:e.mc=false)(h:e.text.size=0):Ga k e=false:=BE hk ⟨hl,by rw[ta];omega,λh2=>by have :=h2.1;rw[ta]at this;omega⟩
theorem YE(t:Da)(h0:0<t.size):(Ke t).take 1=[t[0].toNat]:=by
 have c:=ta t;have b:=BB t 0 h0;match h:Ke t with
 | []=>rw[h]at c;simp at c;omega
 |a::r=>rw[h]at b;rw[<-b];rfl
theorem cR(k:Nat)(e:El)(hk:k<2)(h0:0<e.text.size)(h:e.text[0].toNat=0):Ga k e=true:=JA hk λh2=>h2.2.2 ⟨by rw[ta];omega,by rw[YE _ h0,h]⟩
theorem YN(k:Nat)(e:El)(hk:k<2)(hl:e.mc=false)(h8:e.text.size<=8)(h0:0<e.text.size)(h:¬e.text[0].toNat=0):Ga k e=false:=BE hk ⟨hl,by rw[ta];exact h8,λh2=>by have :=h2.2;rw[YE _ h0]at this;simp only[Vo,and_true]at this;exact h this⟩
theorem NO(k:Nat)(e:El)(hk:¬k<2)(hl:e.mc=false)(h:e.text.size=32):Ga k e=false:=by unfold Ga;rw[Zj hk];simp[hl,h]
theorem xL(k:Nat)(e:El)(hk:¬k<2)(h:¬e.text.size=32):Ga k e=true:=by unfold Ga;rw[Zj hk];simp[h]
theorem sG(q:Nat)(h:q<=4611686018427387904):wrap64 ((q:Int)+1)=((q+1:Nat):Int):=by unfold wrap64;omega
theorem Fc.Bl{tb:Nat}{w':Fa}(h:Fc tb w w')(j:Nat)(u:Value):Fc tb w (w'.setCell ⟨tb,j,none⟩ u):=⟨h.os,h.tape,h.output,by simpa using h.size,λk hk hne=>(Zd _ _ _ _ hne).trans (h.block k hk hne)⟩
theorem Fc.drew{tb:Nat}{w w':Fa}(h:Fc tb w w'):Fc tb w w'.drew:=⟨h.os,h.tape,h.output,h.size,h.block⟩
theorem Fc.tj{tb:Nat}{w':Fa}(h:Fc tb w w')(o:Nat)(l:List Value):Fc tb w (w'.setCells tb o l):=by obtain⟨c,d,e,f⟩:=Og tb l o w';exact⟨d.trans h.os,e.trans h.tape,f.trans h.output,by rw[c];exact h.size,λk b a=>(Qf _ _ _ _ _ a).trans (h.block k b a)⟩
theorem WC(n:Nat):(n:Int)*256=((n*256:Nat):Int):=by omega
theorem jC(n m:Nat):(n:Int)+(m:Int)=((n+m:Nat):Int):=by omega
theorem nD(n bt:Nat)(h:n*256+bt<18446744073709551616):IntKind.u64.wrap (IntKind.u64.wrap ((n:Int)*256)+IntKind.u64.wrap (bt:Int))=((n*256+bt:Nat):Int):=by rw[zm bt (Vx (Nat.le_add_left _ _) h),WC,zm (n*256) (Vx (Nat.le_add_right _ _) h),jC];exact zm _ h
theorem Lb.there{W:Fa}{b:Nat}{cs:List Value}(h:Lb W b cs){o n:Nat}(hn:o+n<=cs.length):W.there b o n:=λj hj=>by have :=h.2 (o+j) _ (Zk (by omega));exact⟨by rw[this.1];rfl,this.2⟩
theorem Lb.vl{b o:Nat}{pre mid post new:List Value}(h:Lb W b (pre++mid++post))(ho:o=pre.length)(hl:new.length=mid.length):Lb (W.setCells b o new) b (pre++new++post):=by
 have e:W.there b o new.length:=h.there (by simp only[Zq];omega);obtain⟨g,_,_,_⟩:=Og b new o W;refine⟨by rw[g];exact h.1,λj v a=>?_⟩;have d:j<(pre++new++post).length:=(Zw.1 a).1;simp only[Zq]at d;have c:(W.setCells b o new).frozen? ⟨b,j,none⟩=false:=by have :=(Xb (h.there (o:=0) (n:=(pre++mid++post).length) (by omega)) b o new j (by simp only[Zq];omega)).2;rwa [Zf]at this
 refine⟨?_,c⟩;by_cases f:j<pre.length;.rw[Va _ _ _ _ _ (λ_ _=>.inl (show j<o by omega))];refine(h.2 j v ?_).1;rw[Xz,Yl f]at a⊢;exact a
 .by_cases i:j<pre.length+new.length;.rw[Yl (by simp only[Zq];omega),Z4 (by omega)]at a;have :=Zn W b o new e (j-pre.length) v a;rwa [show o+(j-pre.length)=j by omega]at this
  .rw[Va _ _ _ _ _ (λ_ _=>.inr (show o+new.length<=j by omega))];refine(h.2 j v ?_).1;rw[Z4 (by simp only[Zq];omega)]at a⊢;rw[Zq]at a⊢;rw[<-hl];exact a
theorem NL(n b:Nat)(r c:List Nat):Ku ⟨n,b,r,c⟩=[Km n,Km b]++r.map Kf++c.map Kf:=rfl
theorem WT(n b:Nat)(r c:List Nat):Ku ⟨n,b,r,c⟩=([Km n,Km b]++r.map Kf)++c.map Kf++[]:=by rw[Jy];rfl
theorem Bx(l:List Nat):(l.map Kf).toArray.all (·.oneCell')=true:=by rw[List.all_toArray,Xy];exact Mo _
theorem pD(t:Da)(k:Nat)(h:k<t.size):Nk ((Ke t).take k)*256+t[k].toNat=Nk ((Ke t).take (k+1))/\(t.size<=8->Nk ((Ke t).take k)*256+t[k].toNat<18446744073709551616):=by
 have j:=ta t;have e:(Ke t).take (k+1)=(Ke t).take k++[t[k].toNat]:=by rw[<-List.take_append_getElem (by omega :k<(Ke t).length),<-Z9 (Ke t) k (by omega),BB t k h]
 have a:Nk ((Ke t).take k)*256+t[k].toNat=Nk ((Ke t).take (k+1)):=by rw[e];unfold Nk;rw[List.foldl_append];rfl
 refine⟨a,λi=>?_⟩;rw[a];have d:=yy ((Ke t).take (k+1)) (λx c=>sh t x (Y4 c));have b:((Ke t).take (k+1)).length<=8:=by rw[Zx];omega
 have f:256^((Ke t).take (k+1)).length<=256^8:=Jg (by decide) b;have g:(256:Nat)^8=18446744073709551616:=by decide
 omega
variable{ps:List El}
theorem lH(h:k<ps.length)(hk:k<2)(hb:Ga k ps[k]=false):ps[k].text.size<=8:=by
 unfold Ga at hb;rw[Zo hk]at hb;by_cases a:G2 ps[k].mc (Ke ps[k].text);.have :=a.2.1;rwa [ta]at this
 .rw[Zt a]at hb;cases hb
theorem GF(h:k<ps.length)(hk:¬k<2)(hb:Ga k ps[k]=false):ps[k].text.size=32:=by
 unfold Ga at hb;rw[Zj hk]at hb;by_cases a:ps[k].mc=false/\ps[k].text.size=32;.exact a.2
 .rw[Zt a]at hb;cases hb
def Ut(R:Value->Prop)(r:Ending)(w':Fa):Prop:=∃(fr en:Nat) (tx:Da) (g c:Nat) (ps:List El),ps.length=4/\r=na (Wa #[Aa ⟨fr,en,true,tx,Ma (some ⟨g,0,none⟩) 4 c⟩,Ki 0 0 0 0])/\(∀i (h:i<ps.length),w'.rangeAt g (i*5) (Ni ps[i]))/\(∀e∈ps,∃p m c,e.sub=Ma p m c)/\
  (∀k (h:k<ps.length),(∀i (hi:i<ps.length),i<k->Ga i ps[i]=false)->Ga k ps[k]=true->R (Wa #[Sa (Ku Kk).toArray,Ki 13 0 0 ps[k].fr]))/\
  ∀(q0:0<ps.length) (q1:1<ps.length) (q2:2<ps.length) (q3:3<ps.length),(∀i (hi:i<ps.length),Ga i ps[i]=false)->R (Wa #[Sa (Ku ⟨Nk (Ke ps[0].text),Nk (Ke ps[1].text),Ke ps[2].text,Ke ps[3].text⟩).toArray,Ki 0 0 0 0])
theorem zP(s:Da)(w:Fa)(R:Value->Prop)(hD:∀W,Calls oa 79 #[La s] W λr w'=>Ba W w'/\Ut R r w'):Calls oa 40 #[La s] w λe w'=>(∃v,R v/\e=na v)/\Ba w w':=by
 have HD:=Hq hD;clear hD;go_enter func40,ntmps40;go_wp2_with fail
 refine(HD _).mono ?_;rintro r w1 ⟨bm,fr,en,tx,g,c,m,eh,rfl,ar,cw,bn,dv⟩;have HB:=Hq bn;have HS:=Hq cw;have HL:=Hq eh;have fy:=Hq dv;clear bn cw eh dv;rw[<-UA]at bm;have R1:=DA.start (X:=Ni ⟨fr,en,true,tx,Ma (some ⟨g,0,none⟩) 4 c⟩) (e:=0) (a:=0) (t:=152) (u:=91) bm;clear bm;rw[show Ki 0 0 0 0=Value.agg #[Ia ka 0,Ia ka 0,Ia ka 0,Ia ka 0]from rfl];go_upto_region 3 with fail
 obtain⟨xb,dh⟩:=nm w1.heap.size;generalize hWW:World.alloc (World.alloc w1 _) _=W;have du:Ba w1 W:=by rw[<-hWW];exact((Zb _ _).alloc (Za _) _).alloc (by simp) _
 have R0:Hid (DA w xb (Ni ⟨fr,en,true,tx,Ma (some ⟨g,0,none⟩) 4 c⟩) 0 0 W):=by rw[<-dh,<-hWW];exact R1
 have HC:Hid (∀i (h:i<m.length),W.rangeAt g (i*5) (Ni m[i])):=λi h j u hu=>(du.cell (Yo w1 _ (ar i h j u hu))).trans (ar i h j u hu);rw[dh];clear R1 dh hWW du ar;have f0:W.cell? ⟨xb+1,0,none⟩=some (Ia ka 0):=(R0.f.2 0 _ rfl).1;have x0:=(R0.x.2 0 _ rfl).1;have x2:=(R0.x.2 2 _ rfl).1;have xl:=R0.x.1;go_wp2;go_loopg [7] 4 (λgh i wr=>∃k,k<=4/\gh=4-k/\i=Ia ka (k:Int)/\Ba W wr/\∀i (hi:i<m.length),i<k->Ga i m[i]=false)
 case atStart=>exact⟨0,by omega,rfl,rfl,Zb _ _,λi _ h=>by omega⟩
 case round=>
  obtain⟨k,hk,rfl,rfl,hB,O⟩:=hrel;have z2:wr.cell? ⟨xb,2,none⟩=some (Ma (some ⟨g,0,none⟩) 4 c):=(hB.cell (p:=⟨xb,2,none⟩) xl).trans x2;by_cases Y:k<4
  .have aq:(k:Int)<4:=by omega
   have ch:k<m.length:=by rw[HL.o];exact Y
   have ac:=HC k ch;have bv:=HB k ch O;have ej:=HS _ (Zy ch);obtain⟨q,cu⟩:=nm (m[k]);rw[cu]at ac bv ej;have A1:Aside (Ba W wr/\(Ga k q=false->∀i (hi:i<m.length),i<k+1->Ga i m[i]=false)):=⟨hB,λhb i hi h=>by
    by_cases e:i=k;.subst e;rw[cu];exact hb
    .exact O i hi (by omega)⟩
   obtain⟨d,am,l',l,ip⟩:=q;obtain⟨p',m',c',ei⟩:=ej;simp only at ei;subst ei;have ae:∀j u,W.cell? ⟨g,k*5+j,none⟩=some u->wr.cell? ⟨g,k*5+j,none⟩=some u:=λj u hu=>(hB.cell (Yo W _ hu)).trans hu;have r0:wr.cell? ⟨g,k*5,none⟩=some (Oa l'):=ae 0 _ (ac 0 _ rfl);have r1:wr.cell? ⟨g,k*5+1,none⟩=some (La l):=ae 1 _ (ac 1 _ rfl);have r2:wr.cell? ⟨g,k*5+2,none⟩=some (Ma p' m' c'):=ae 2 _ (ac 2 _ rfl);have r3:wr.cell? ⟨g,k*5+3,none⟩=some (Ia ka (d:Int)):=ae 3 _ (ac 3 _ rfl);have r4:wr.cell? ⟨g,k*5+4,none⟩=some (Ia ka (am:Int)):=ae 4 _ (ac 4 _ rfl);have ba:=Hq bv;clear ac bv cu hB O ae;obtain⟨bd,bq⟩:=nm (Ga k ⟨d,am,l',l,Ma p' m' c'⟩);rw[bq]at ba A1;have L:=Hq bq;clear bq;go_upto_if 45 with fail
   obtain⟨W2,az⟩:∃W2,W2=wr.alloc (ma (Ni ⟨d,am,l',l,Ma p' m' c'⟩).toArray 152):=⟨_,rfl⟩;rw[show wr.alloc (ma #[Oa l',La l,Ma p' m' c',Ia ka (d:Int),Ia ka (am:Int)] 152)=W2 from az.symm];have hY:Lb W2 wr.heap.size (Ni ⟨d,am,l',l,Ma p' m' c'⟩):=by rw[az];exact Lb.fresh wr _ _
   obtain⟨yb,ew⟩:=nm wr.heap.size;rw[ew]at hY⊢;have y1:=(hY.2 1 _ rfl).1;have y3:=(hY.2 3 _ rfl).1;have yl:=hY.1;have A2:Aside (Ba W W2/\xb<yb):=⟨by rw[az];exact A1.1.alloc A1.1.size _,by have :=A1.1.size;omega⟩;clear hY az ew r0 r1 r2 r3 r4 z2;go_cut [9] (λv wc=>v=Oa bd/\wc=W2)
   case first=>
    by_cases ag:k<2
    .have fw:(k:Int)<2:=by omega
     cases l' with
     |true=>
      have I:Aside (bd=true):=by rw[<-L.o];exact AE k _ rfl
      go_wp2;go_meet;exact⟨by rw[I.o],rfl⟩
     |false=>
      by_cases h8:8<l.size
      .have dn:(8:Int)<(l.size:Int):=by omega
       have I:Aside (bd=true):=by rw[<-L.o];exact uP k _ ag h8
       go_wp2;go_meet;exact⟨by rw[I.o],rfl⟩
      .have dn:(l.size:Int)<=8:=by omega
       by_cases M:l.size=0
       .have gy:(l.size:Int)=0:=by omega
        have I:Aside (bd=false):=by rw[<-L.o];exact DR k _ ag rfl M
        go_wp2;go_meet;exact⟨by rw[I.o],rfl⟩
       .have gy:(0:Int)<(l.size:Int):=by omega
        have dk:0<l.size:=by omega
        by_cases hz:l[0].toNat=0
        .have I:Aside (bd=true):=by rw[<-L.o];exact cR k _ ag dk hz
         have ic:((l[0].toNat:Int)==0)=true:=by simp[hz]
         go_wp2;go_meet;exact⟨by rw[I.o],rfl⟩
        .have I:Aside (bd=false):=by rw[<-L.o];exact YN k _ ag rfl (by simp only;omega) dk hz
         have ic:((l[0].toNat:Int)==0)=false:=by simp;omega
         go_wp2;go_meet;exact⟨by simp[I.o,dn],rfl⟩
    .have fw:(2:Int)<=(k:Int):=by omega
     cases l' with
     |true=>
      have I:Aside (bd=true):=by rw[<-L.o];exact AE k _ rfl
      go_wp2;go_meet;exact⟨by rw[I.o],rfl⟩
     |false=>
      by_cases dm:l.size=32
      .have fu:(l.size:Int)=32:=by omega
       have I:Aside (bd=false):=by rw[<-L.o];exact NO k _ ag rfl dm
       go_wp2;go_meet;exact⟨by rw[I.o],rfl⟩
      .have fu:((l.size:Int)==32)=false:=by simp;omega
       have il:((l.size:Int) != 32)=true:=by simp;omega
       have I:Aside (bd=true):=by rw[<-L.o];exact xL k _ ag dm
       go_wp2;go_meet;exact⟨by rw[I.o],rfl⟩
   case rest=>
    obtain⟨rfl,rfl⟩:=hcut;cases bd with
    |false=>
     have HG:=Hq (A1.2 rfl);go_wp2;go_roundg (4-(k+1))
     case measure=>omega
     case rel=>exact⟨k+1,by omega,rfl,ld (by omega),A2.1,HG.o⟩
    |true=>
     have HV:=Hq (ba rfl);clear ba L;go_wp2_with fail
     refine Vj (by kernel_rfl) ?_;change wpAny _ _ _ _ _ _ _ (World.drew _);have D0:Hid (DA w xb (Ni ⟨fr,en,true,tx,Ma (some ⟨g,0,none⟩) 4 c⟩) 0 0 wc):=R0.step A2.1;have i7:(Ku Kk).toArray.size=66:=by rw[Ym];exact ol
     have ai:w.heap.size≠w.heap.size+1:=by omega
     have iq:=R0.tu;have ir:=A2.2;obtain⟨f,hf⟩:∃f:Nat->Value,f=λi=>([Sa (Ku Kk).toArray,Qa (some ⟨yb,3,none⟩),Ia ka (d:Int),Sa (Kz 13 d).toArray,undef,undef]:List Value).getD i undef:=⟨_,rfl⟩;have v0:f 0=Sa (Ku Kk).toArray:=by rw[hf];rfl
     have v1:f 1=Qa (some ⟨yb,3,none⟩):=by rw[hf];rfl
     have v2:f 2=Ia ka (d:Int):=by rw[hf];rfl
     have v3:f 3=Sa (Kz 13 d).toArray:=by rw[hf];rfl
     refine oM _ {tmps:=#[Value.string s,undef,Value.pointer (some {block:=w.heap.size,off:=0}),Value.pointer (some {block:=w.heap.size+1,off:=0}),Value.pointer (some {block:=w.heap.size+1+1,off:=0}),Value.pointer (some {block:=xb,off:=0}),Value.pointer (some {block:=xb+1,off:=0}),Value.int IntKind.i64 ↑k,Value.pointer (some {block:=yb,off:=0}),Value.bool true,undef,undef,Value.tuple #[Aa {fr:=fr,ra:=en,mc:=true,text:=tx,sub:=Value.slice (some {block:=g,off:=0}) 4 c},Value.agg #[Value.int IntKind.i64 0,Value.int IntKind.i64 0,Value.int IntKind.i64 0,Value.int IntKind.i64 0]],Value.string s,Value.tuple #[Aa {fr:=fr,ra:=en,mc:=true,text:=tx,sub:=Value.slice (some {block:=g,off:=0}) 4 c},Value.agg #[Value.int IntKind.i64 0,Value.int IntKind.i64 0,Value.int IntKind.i64 0,Value.int IntKind.i64 0]],Aa {fr:=fr,ra:=en,mc:=true,text:=tx,sub:=Value.slice (some {block:=g,off:=0}) 4 c},Value.agg #[Value.int IntKind.i64 0,Value.int IntKind.i64 0,Value.int IntKind.i64 0,Value.int IntKind.i64 0],Value.pointer (some {block:=xb+1,off:=0}),Value.int IntKind.i64 0,Value.bool false,undef,undef,Value.pointer (some {block:=xb,off:=0}),Value.bool true,Value.bool false,Value.bool false,Value.pointer (some {block:=xb,off:=2}),Value.slice (some {block:=g,off:=0}) 4 c,Value.int IntKind.i64 4,Value.bool false,Value.bool false,undef,undef,u33,u34,u35,u36,u37,u38,u39,u40,u41,u42,u43,u44,u45,u46,u47,u48,u49,u50,u51,u52,u53,u54,u55,u56,u57,u58,u59,u60,u61,u62,u63,u64,u65,u66,u67,u68,u69,u70,u71,Value.bool true,f 0,f 1,f 2,f 3,undef,undef,undef,undef,undef,undef,undef,undef,undef,undef,undef,undef,undef,undef,undef,undef,undef,undef,undef,undef,undef,undef,undef,undef,undef,undef,undef,undef,undef,undef,undef,undef,undef,undef,undef,undef,undef,undef,undef,undef,undef,undef,undef,undef,undef,undef,undef,undef,undef,undef,undef,undef,undef,undef,undef,undef,undef,undef,undef,undef,undef,undef],defers:=[]} f (λL' W'=>SE wc w.heap.size (w.heap.size+1) (Ku Kk) (Kz 13 d) (L'.getD 4 false) (L'.getD 5 false) W') (by kernel_rfl) (by kernel_rfl) ?_ _ ?_ (by kernel_rfl) ?_
     .intro i o ho z b W' y E ia im G;have hi:i<6:=(Zg.1 ho).1;have io:z.size=6:=ia;match i,hi with
      |0,_=>obtain rfl:=Zi ho;refine⟨λ_=>?_,λF=>absurd F (by simp[Region.wanted])⟩;have t4:b.tmps[4]? =some (Qa (some ⟨w.heap.size+1+1,0,none⟩)):=(y.rest 4 (λi _=>Qh (by kernel_rfl) i)).trans rfl;have hr:W'.rangeAt (w.heap.size+2) 0 (Ku Kk):=G.range (λj u hu=>by rw[Zf];exact(D0.a.2 j u hu).1) (by omega) (by omega);rw[v0];refine Jv 46 (.tmp 4) rfl (w.heap.size+1+1) 0 (by simp only[Act.eval,Ya,t4,Yk]) (Ku Kk) _ hr underlying46 rfl (by rw[ol];exact qh) ⟨rfl,?_⟩;rw[Bj (by omega),Bj (by omega),Zj (by omega),Zj (by omega)];exact G
      |1,_=>
       obtain rfl:=Zi ho;refine⟨λ_=>?_,λF=>absurd F (by simp[Region.wanted])⟩;have t8:b.tmps[8]? =some (Qa (some ⟨yb,0,none⟩)):=(y.rest 8 (λi _=>Qh (by kernel_rfl) i)).trans rfl;have U:SE wc w.heap.size (w.heap.size+1) (Ku Kk) (Kz 13 d) ((z.setIfInBounds 1 true).getD 4 false) ((z.setIfInBounds 1 true).getD 5 false) W':=by rw[Bj (by omega),Bj (by omega),Zj (by omega),Zj (by omega)];exact G
       have T:=Hq U;rw[v1];refine Vd (λa' w' (h:a'=b.put (some 74) (Qa (some ⟨yb,3,none⟩))/\w'=W')=>⟨h.1,by rw[h.2];exact T.o⟩) ?_;clear ho hf E y G U T v0 v1 v2 v3;go_simp
      |2,_=>
       obtain rfl:=Zi ho;refine⟨λ_=>?_,λF=>absurd F (by simp[Region.wanted])⟩;have iu:b.tmps[74]? =some (Qa (some ⟨yb,3,none⟩)):=(y.done 1 74 (E ⟨1,.data⟩ (by simp) rfl) rfl (by simp)).trans (Y5 some v1);have hc:W'.cell? ⟨yb,3,none⟩=some (Ia ka (d:Int)):=(Zc (G.block yb (by omega) (by omega))).trans y3;have U:SE wc w.heap.size (w.heap.size+1) (Ku Kk) (Kz 13 d) ((z.setIfInBounds 2 true).getD 4 false) ((z.setIfInBounds 2 true).getD 5 false) W':=by rw[Bj (by omega),Bj (by omega),Zj (by omega),Zj (by omega)];exact G
       have T:=Hq U;rw[v2];refine Vd (λa' w' (h:a'=b.put (some 75) (Ia ka (d:Int))/\w'=W')=>⟨h.1,by rw[h.2];exact T.o⟩) ?_;clear ho hf E y G U T v0 v1 v2 v3;go_simp
      |3,_=>
       obtain rfl:=Zi ho;refine⟨λ_=>?_,λF=>absurd F (by simp[Region.wanted])⟩;have iw:b.tmps[75]? =some (Ia ka (d:Int)):=(y.done 2 75 (E ⟨2,.data⟩ (by simp) rfl) rfl (by simp)).trans (Y5 some v2);have U:SE wc w.heap.size (w.heap.size+1) (Ku Kk) (Kz 13 d) ((z.setIfInBounds 3 true).getD 4 false) ((z.setIfInBounds 3 true).getD 5 false) W':=by rw[Bj (by omega),Bj (by omega),Zj (by omega),Zj (by omega)];exact G
       have T:=Hq U;rw[v3];refine Vd (λa' w' (h:a'=b.put (some 76) (Sa #[Ia ka 13,Ia ka 0,Ia ka 0,Ia ka (d:Int)])/\w'=W')=>⟨h.1,by rw[h.2];exact T.o⟩) ?_;clear ho hf E y G U T v0 v1 v2 v3;go_simp
      |4,_=>obtain rfl:=Zi ho;refine⟨λ_=>?_,λF=>absurd F (by simp[Region.wanted])⟩;have B:b.tmps[2]? =some (Qa (some ⟨w.heap.size,0,none⟩)):=(y.rest 2 (λi _=>Qh (by kernel_rfl) i)).trans rfl;have ii:b.tmps[73]? =some (Sa (Ku Kk).toArray):=(y.done 0 73 (E ⟨0,.data⟩ (by simp) rfl) rfl (by simp)).trans (Y5 some v0);refine J5 46 (.tmp 2) (.tmp 73) rfl w.heap.size 0 (Ku Kk).toArray (by simp only[Act.eval,Ya,B,Yk]) (by simp only[Act.eval,Ya,ii,Yk]) (by rw[Ym];exact G.t0) (by rw[i7];exact qh) kB ⟨rfl,?_⟩;rw[Bj (by omega),Bj (by omega),Zo rfl,Zj (by omega)];exact G.Dj ai
      |5,_=>obtain rfl:=Zi ho;refine⟨λ_=>?_,λF=>absurd F (by simp[Region.wanted])⟩;have C:b.tmps[3]? =some (Qa (some ⟨w.heap.size+1,0,none⟩)):=(y.rest 3 (λi _=>Qh (by kernel_rfl) i)).trans rfl;have ij:b.tmps[76]? =some (Sa (Kz 13 d).toArray):=(y.done 3 76 (E ⟨3,.data⟩ (by simp) rfl) rfl (by simp)).trans (Y5 some v3);refine J5 91 (.tmp 3) (.tmp 76) rfl (w.heap.size+1) 0 (Kz 13 d).toArray (by simp only[Act.eval,Ya,C,Yk]) (by simp only[Act.eval,Ya,ij,Yk]) G.t1 Di (cl 13 d) ⟨rfl,?_⟩;rw[Bj (by omega),Bj (by omega),Zj (by omega),Zo rfl];exact G.ui ai
     .have M:SE wc w.heap.size (w.heap.size+1) (Ku Kk) (Kz 13 d) false false wc:=SE.start (by rw[ol];exact D0.r0) D0.r1;exact M.drew
     .intro W' G;have dr:SE wc w.heap.size (w.heap.size+1) (Ku Kk) (Kz 13 d) true true W':=G;have dj:=Hq dr;clear G dr hf v0 v1 v2 v3;go_wp2_with fail
      exact Zv (v:=Wa #[Sa (Ku Kk).toArray,Ki 13 0 0 d]) (dj.result ol D0.below (Za _) (by omega) results40 rfl rfl).1 rfl ⟨⟨_,HV.o,rfl⟩,dj.below D0.below (Za _) (by omega)⟩
  .have i8:k=4:=by omega
   subst i8;have aq:(4:Int)<=((4:Nat):Int):=by omega
   have Z:Hid (DA w xb (Ni ⟨fr,en,true,tx,Ma (some ⟨g,0,none⟩) 4 c⟩) 0 0 wr):=R0.step hB;have q0:0<m.length:=by rw[HL.o];omega
   have q1:1<m.length:=by rw[HL.o];omega
   have q2:2<m.length:=by rw[HL.o];omega
   have q3:3<m.length:=by rw[HL.o];omega
   have au:Hid (∀i (h:i<m.length),wr.cell? ⟨g,i*5+1,none⟩=some (La m[i].text)):=λi h=>by have :=HC i h 1 (La m[i].text) rfl;exact(hB.cell (Yo W _ this)).trans this
   have ak:Hid (∀i (hi:i<m.length),Ga i m[i]=false):=λi hi=>O i hi (by rw[HL.o]at hi;exact hi);have ci:=lH q0 (by omega) (ak 0 q0);have cj:=lH q1 (by omega) (ak 1 q1);have ah:=GF q2 (by omega) (ak 2 q2);have cq:=GF q3 (by omega) (ak 3 q3);have g0:wr.cell? ⟨g,1,none⟩=_:=au 0 q0;have g1:wr.cell? ⟨g,6,none⟩=_:=au 1 q1;have g2:wr.cell? ⟨g,11,none⟩=_:=au 2 q2;have g3:wr.cell? ⟨g,16,none⟩=_:=au 3 q3;obtain⟨J,dc⟩:=nm (m[0].text);obtain⟨K,de⟩:=nm (m[1].text);obtain⟨B,df⟩:=nm (m[2].text);obtain⟨C,dg⟩:=nm (m[3].text);have gn:Hid (m[0].text=J/\m[1].text=K/\m[2].text=B/\m[3].text=C):=⟨dc,de,df,dg⟩;rw[dc]at ci g0;rw[de]at cj g1;rw[df]at ah g2;rw[dg]at cq g3;have S:Hid (J.size<=8/\K.size<=8/\B.size=32/\C.size=32):=⟨ci,cj,ah,cq⟩;have gl:g<wr.heap.size:=by simpa using Yo wr _ g0
   have ng:g≠w.heap.size+2:=by intro e;have M:=(Z.a.2 1 _ rfl).1;rw[e]at g0;have :=g0.symm.trans M;cases this
   have zl:=(hB.size:W.heap.size<=wr.heap.size);have nx:xb≠w.heap.size+2:=by have :=R0.tu;omega
   have AL:Aside (Fc (w.heap.size+2) wr wr):=Fc.refl _ _;clear hB O Y hk ci cj ah cq dc de df dg;obtain⟨V,rfl⟩:∃V,V=wr:=⟨_,rfl⟩;go_wp2;go_loopg [10] J.size (λgh i wr=>∃k n,k<=J.size/\gh=J.size-k/\i=Ia ka (k:Int)/\n=Nk ((Ke J).take k)/\Fc (w.heap.size+2) V wr/\Lb wr (w.heap.size+2) (Ku ⟨n,0,Nl,Nl⟩))
   case atStart=>exact⟨0,0,by omega,rfl,rfl,rfl,Fc.refl _ _,Z.a⟩
   case round=>
    obtain⟨k,n,hk,rfl,rfl,hn,Q,P⟩:=hrel;have kb:∀b,b<V.heap.size->b≠w.heap.size+2->wr.heap[b]? =V.heap[b]? :=λb D h2=>Q.block b D h2;have xw:xb<V.heap.size:=by have :=Z.x.1;exact this
    have e2:wr.cell? ⟨xb,2,none⟩=some (Ma (some ⟨g,0,none⟩) 4 c):=(Zc (kb xb xw nx)).trans (Z.x.2 2 _ rfl).1;have e0:wr.cell? ⟨g,1,none⟩=some (La J):=(Zc (kb g gl ng)).trans g0;by_cases Y:k<J.size
    .have aq:(k:Int)<(J.size:Int):=by omega
     obtain⟨a0,al⟩:=P.2 0 _ rfl;have gq:wr.cell? ⟨w.heap.size+1+1,0,none⟩=some (Ia .u64 (n:Int)):=a0;have fq:wr.frozen? ⟨w.heap.size+1+1,0,none⟩=false:=al;have bl:=P.1;have fv:w.heap.size+1+1<wr.heap.size:=bl;obtain⟨bt,cf⟩:=nm (J[k].toNat);have A3:Aside (Fc (w.heap.size+2) V wr/\Lb wr (w.heap.size+2) (Ku ⟨n,0,Nl,Nl⟩)/\n*256+bt=Nk ((Ke J).take (k+1))/\n*256+bt<18446744073709551616):=by have D:=pD J k Y;rw[cf,<-hn]at D;exact⟨Q,P,D.1,D.2 (by have :=S.o;omega)⟩
     have bc:=Hq (nD n bt A3.2.2.2);clear kb Q P hn a0 al;go_wp2_with fail
     go_region;go_wp2;go_roundg (J.size-(k+1))
     case measure=>omega
     case rel=>refine⟨k+1,n*256+bt,by omega,rfl,ld (sG k (by have :=S.o;omega)),A3.2.2.1,(A3.1.Bl 0 _).drew,?_⟩;rw[bc.o];exact A3.2.1.setAt 0 (Km (n*256+bt)) (by show 0<(Ku ⟨n,0,Nl,Nl⟩).length;rw[Lo rfl rfl];omega)
    .have aq:(J.size:Int)<=(k:Int):=by omega
     have ah:n=Nk (Ke J):=by rw[hn,Zz (by rw[ta];omega)]
     have gj:=Hq ah;obtain⟨V2,rfl⟩:∃V2,V2=wr:=⟨_,rfl⟩;have A4:Aside (Fc (w.heap.size+2) V V2/\Lb V2 (w.heap.size+2) (Ku ⟨n,0,Nl,Nl⟩)):=⟨Q,P⟩;clear kb Q P hn ah Y hk;go_wp2;go_loopg [11] K.size (λgh i wr=>∃k b,k<=K.size/\gh=K.size-k/\i=Ia ka (k:Int)/\b=Nk ((Ke K).take k)/\Fc (w.heap.size+2) V wr/\Lb wr (w.heap.size+2) (Ku ⟨n,b,Nl,Nl⟩))
     case atStart=>exact⟨0,0,by omega,rfl,rfl,rfl,A4.o⟩
     case round=>
      obtain⟨k,b,hk,rfl,rfl,hn,Q,P⟩:=hrel;have kb:∀b,b<V.heap.size->b≠w.heap.size+2->wr.heap[b]? =V.heap[b]? :=λb D h2=>Q.block b D h2;have e2:wr.cell? ⟨xb,2,none⟩=some (Ma (some ⟨g,0,none⟩) 4 c):=(Zc (kb xb xw nx)).trans (Z.x.2 2 _ rfl).1;have e0:wr.cell? ⟨g,6,none⟩=some (La K):=(Zc (kb g gl ng)).trans g1;by_cases Y:k<K.size
      .have aq:(k:Int)<(K.size:Int):=by omega
       obtain⟨a0,al⟩:=P.2 1 _ rfl;have gq:wr.cell? ⟨w.heap.size+1+1,1,none⟩=some (Ia .u64 (b:Int)):=a0;have fq:wr.frozen? ⟨w.heap.size+1+1,1,none⟩=false:=al;have bl:=P.1;have fv:w.heap.size+1+1<wr.heap.size:=bl;obtain⟨bt,cf⟩:=nm (K[k].toNat);have A5:Aside (Fc (w.heap.size+2) V wr/\Lb wr (w.heap.size+2) (Ku ⟨n,b,Nl,Nl⟩)/\b*256+bt=Nk ((Ke K).take (k+1))/\b*256+bt<18446744073709551616):=by have D:=pD K k Y;rw[cf,<-hn]at D;exact⟨Q,P,D.1,D.2 (by have :=S.o;omega)⟩
       have bc:=Hq (nD b bt A5.2.2.2);clear kb Q P hn a0 al;go_wp2_with fail
       go_region;go_wp2;go_roundg (K.size-(k+1))
       case measure=>omega
       case rel=>refine⟨k+1,b*256+bt,by omega,rfl,ld (sG k (by have :=S.o;omega)),A5.2.2.1,(A5.1.Bl 1 _).drew,?_⟩;rw[bc.o];exact A5.2.1.setAt 1 (Km (b*256+bt)) (by show 1<(Ku ⟨n,b,Nl,Nl⟩).length;rw[Lo rfl rfl];omega)
      .have aq:(K.size:Int)<=(k:Int):=by omega
       have dt:b=Nk (Ke K):=by rw[hn,Zz (by rw[ta];omega)]
       have fx:=Hq dt;obtain⟨V3,rfl⟩:∃V3,V3=wr:=⟨_,rfl⟩;have gv:V3.cell? ⟨g,11,none⟩=some (La B):=(Zc (kb g gl ng)).trans g2;have aw:V3.cell? ⟨g,16,none⟩=some (La C):=(Zc (kb g gl ng)).trans g3;have gw:g<V3.heap.size:=Zm gl Q.size;have ik:xb<V3.heap.size:=Zm xw Q.size;have A6:Aside (Fc (w.heap.size+2) V V3/\Lb V3 (w.heap.size+2) (Ku ⟨n,b,Nl,Nl⟩)):=⟨Q,P⟩;have gc:Hid (∀X,Calls oa 93 #[La B] X λe w'=>e=na (Sa ((Ke B).map Kf).toArray)/\Ba X w'):=λX=>QB B S.2.2.1 X;have ge:Hid (∀X,Calls oa 93 #[La C] X λe w'=>e=na (Sa ((Ke C).map Kf).toArray)/\Ba X w'):=λX=>QB C S.2.2.2 X;have dw:(Ke B).length=32:=by rw[ta];exact S.2.2.1
       have dz:(Ke C).length=32:=by rw[ta];exact S.2.2.2
       have H:Hid ((Ke B).length=32/\(Ke C).length=32):=⟨dw,dz⟩;clear kb Q P hn dt Y hk dw dz A4;go_wp2_with fail
       refine(gc _).mono ?_;rintro e D ⟨rfl,N⟩;have A7:Aside (Ba V3 D/\Lb D (w.heap.size+2) (Ku ⟨n,b,Nl,Nl⟩)):=⟨N,A6.2.below N⟩;have fk:D.there (w.heap.size+1+1) 2 ((Ke B).map Kf).toArray.size:=by rw[show((Ke B).map Kf).toArray.size=32 by rw[Ym,Zl,H.1]];exact A7.2.there (by rw[Lo rfl rfl];omega)
       have fo:(oa.info? 39).map (·.size)=some ((Ke B).map Kf).toArray.size:=by rw[Ym,Zl,H.1];exact Ck
       have fi:=Bx (Ke B);have fg:D.cell? ⟨g,16,none⟩=some (La C):=(N.cell (p:=⟨g,16,none⟩) gw).trans aw;have fh:D.cell? ⟨xb,2,none⟩=some (Ma (some ⟨g,0,none⟩) 4 c):=(N.cell (p:=⟨xb,2,none⟩) ik).trans e2;clear N gv aw e2 e0;go_upto_region 26 with(refine Zs rfl 39 _ _ rfl (w.heap.size+1+1) 2 ((Ke B).map Kf).toArray rfl rfl fk fo fi ?_)
       obtain⟨V4,ao⟩:∃V4,V4=D.setCells (w.heap.size+2) 2 ((Ke B).map Kf):=⟨_,rfl⟩;rw[show D.setCells (w.heap.size+1+1) 2 ((Ke B).map Kf).toArray.toList=V4 from ao.symm];have A8:Aside (Fc (w.heap.size+2) V V4/\Lb V4 (w.heap.size+2) (Ku ⟨n,b,Ke B,Nl⟩)):=by rw[ao];refine⟨(A6.1.trans (Fc.xa A7.1)).tj 2 _,?_⟩;have M:=A7.2;rw[NL]at M⊢;exact M.vl rfl (by rw[Zl,Zl,H.1];rfl)
       have ie:g≠w.heap.size+2:=ng;have aw:V4.cell? ⟨g,16,none⟩=some (La C):=by rw[ao];exact(Zc (Qf _ _ _ _ _ ie)).trans fg
       have e2:V4.cell? ⟨xb,2,none⟩=some (Ma (some ⟨g,0,none⟩) 4 c):=by rw[ao];exact(Zc (Qf _ _ _ _ _ nx)).trans fh
       clear ao fg fh fk fo fi;go_wp2_with fail
       refine(ge _).mono ?_;rintro e h2 ⟨rfl,N⟩;have A9:Aside (Ba V4 h2/\Lb h2 (w.heap.size+2) (Ku ⟨n,b,Ke B,Nl⟩)):=⟨N,A8.2.below N⟩;have fm:h2.there (w.heap.size+1+1) 34 ((Ke C).map Kf).toArray.size:=by rw[show((Ke C).map Kf).toArray.size=32 by rw[Ym,Zl,H.2]];exact A9.2.there (by rw[Lo H.1 rfl];omega)
       have fp:(oa.info? 39).map (·.size)=some ((Ke C).map Kf).toArray.size:=by rw[Ym,Zl,H.2];exact Ck
       have fj:=Bx (Ke C);clear N aw e2;go_upto_region 27 with(refine Zs rfl 39 _ _ rfl (w.heap.size+1+1) 34 ((Ke C).map Kf).toArray rfl rfl fm fp fj ?_)
       obtain⟨V5,bj⟩:∃V5,V5=h2.setCells (w.heap.size+2) 34 ((Ke C).map Kf):=⟨_,rfl⟩;rw[show h2.setCells (w.heap.size+1+1) 34 ((Ke C).map Kf).toArray.toList=V5 from bj.symm];have AX:Aside (Fc (w.heap.size+2) V V5/\Lb V5 (w.heap.size+2) (Ku ⟨n,b,Ke B,Ke C⟩)):=by rw[bj];refine⟨(A8.1.trans (Fc.xa A9.1)).tj 34 _,?_⟩;have M:=A9.2;rw[WT]at M⊢;exact M.vl (by simp only[Zq,Zl,H.1,Zu,Yq]) (by rw[Zl,Zl,H.2];rfl)
       clear bj fm fp fj;have di:Hid (R (Wa #[Sa (Ku ⟨n,b,Ke B,Ke C⟩).toArray,Ki 0 0 0 0])):=by have M:=fy q0 q1 q2 q3 ak.o;obtain⟨i0,i1,i2,i3⟩:=gn.o;rw[i0,i1,i2,i3,<-gj.o,<-fx.o]at M;exact M
       obtain⟨L5,ay⟩:=nm (Ku ⟨n,b,Ke B,Ke C⟩);have aj:L5.length=66:=by rw[<-ay];exact Lo H.1 H.2
       have ig:L5.toArray.all (·.oneCell')=true:=by rw[<-ay];exact qk _
       rw[ay]at AX di;have eo:V5.heap[w.heap.size]? =V.heap[w.heap.size]? :=AX.1.block _ (by have :=Z.a.1;omega) (by omega);have eu:V5.heap[w.heap.size+1]? =V.heap[w.heap.size+1]? :=AX.1.block _ (by have :=Z.a.1;omega) (by omega);have dq:Ba w V5:=AX.1.below Z.below (by omega) Z.below.size;have bf:SE V5 w.heap.size (w.heap.size+1) L5 (Kz 0 0) false false V5:=SE.start (by rw[aj];exact ve Z.r0 eo) (ve Z.r1 eu);have ai:w.heap.size≠w.heap.size+1:=by omega
       have bi:=bf.Dj ai;have AS:Aside (SE V5 w.heap.size (w.heap.size+1) L5 (Kz 0 0) true true ((V5.setCells w.heap.size 0 L5).setCells (w.heap.size+1) 0 (Kz 0 0))/\Ba w V5):=⟨bi.ui ai,dq⟩;have s0:V5.there w.heap.size 0 L5.toArray.size:=by rw[show L5.toArray.size=L5.length from Ym];exact bf.t0
       have s1:(V5.setCells w.heap.size 0 L5).there (w.heap.size+1) 0 (Kz 0 0).toArray.size:=bi.t1;have i9:V5.rangeAt (w.heap.size+2) 0 L5:=λj u hu=>by rw[Zf];exact(AX.2.2 j u hu).1
       have f9:(oa.info? 46).map (·.size)=some L5.length:=by rw[aj];exact qh
       have ib:(oa.info? 46).map (·.size)=some L5.toArray.size:=by rw[show L5.toArray.size=L5.length from Ym];exact f9
       have gi:=Hq aj;clear bf bi ai eo eu dq ay aj;go_wp2_with (first
        | (refine Zr rfl 46 _ rfl (w.heap.size+1+1) 0 rfl L5 _ i9 underlying46 rfl f9 ?_)
        | (refine Zs rfl 46 _ _ rfl w.heap.size 0 L5.toArray rfl rfl s0 ib ig ?_)
        | (refine Zs rfl 91 _ _ rfl (w.heap.size+1) 0 (Kz 0 0).toArray rfl rfl s1 Di (cl 0 0) ?_))
       exact Zv (v:=Wa #[Sa L5.toArray,Ki 0 0 0 0]) (AS.1.result gi AS.2 (Za _) (by omega) results40 rfl rfl).1 rfl ⟨⟨_,di.o,rfl⟩,AS.1.below AS.2 (Za _) (by omega)⟩
end Go.Proofs.YtpfbdlnibdfcoaaGreatDoor
