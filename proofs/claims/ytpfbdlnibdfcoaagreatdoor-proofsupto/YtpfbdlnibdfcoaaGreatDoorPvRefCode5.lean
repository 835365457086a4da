import Derived.Test.YtpfbdlnibdfcoaaGreatDoorPvRdA
namespace Go.Proofs.YtpfbdlnibdfcoaaGreatDoor
open Go.RowKit Tryz
open Value renaming int->Ia,string->La,slice->Ma,bool->Oa,pointer->Qa,agg->Sa,tuple->Wa,iface->ca,nilIface->da
open IntKind renaming i64->ka
open Obj renaming cells->ma
open Ending renaming returned->na
open Tryz renaming prog->oa
set_option maxRecDepth 100000
set_option maxHeartbeats 0
section
theorem wQ(s:Da)(at_ end_ deep:Nat)(w:Fa)(N Z fr rm:Nat)(hfr:wrap64 ((at_:Int)+(Z:Int))=(fr:Int))(hrm:wrap64 ((end_:Int)-(fr:Int))=(rm:Int))(hN:(N:Int)<=(rm:Int))(hd:(6:Int)<=(deep:Int))(hH:∀W,Calls oa 173 #[La s,Ia ka (at_:Int),Ia ka (end_:Int)] W λe w'=>e=na (E2 true N Z 0)/\Ba W w'):Calls oa 129 #[La s,Ia ka (at_:Int),Ia ka (end_:Int),Ia ka (deep:Int)] w (Hp (Wa #[Hb,Ki 5 0 0 at_]) w):=by
 have i:=Hq hH;clear hH;go_enter func129,ntmps129;go_wp2_with fail
 refine(i _).mono ?_;rintro e g ⟨rfl,c⟩;have b:=ff.start (l:=true) (N:=N) (Z:=Z) c;clear c;go_wp2_with fail
 obtain⟨y,a⟩:=nm g.heap.size;generalize g.alloc (ma #[Oa true,Ia ka (N:Int),Ia ka (Z:Int)] 277)=w2 at b⊢;rw[a]at b⊢;have d:=Hq b;clear b a;refine ml (C:=λW=>Ba w2 W) (by kernel_rfl) (by kernel_rfl) ((Zb _ _).drew) ?_;repeat (go_big_quiet_step (first|exact λ_=>rfl| (intro u;rw[(d.cells u).1];exact⟨rfl,rfl⟩)))
 refine X4 λW f=>?_;have A2:Aside (ff w at_ y true N Z W):=d.step f;have R:=A2.r0.1;have z:=A2.x.1;have a:=A2.h.1;obtain⟨⟨j,B⟩,⟨k,D⟩,⟨m,E⟩,⟨n,F⟩,o,G⟩:=A2.r0.Ch;obtain⟨⟨p,H⟩,⟨q,I⟩,⟨r,J⟩,t,K⟩:=A2.r1.four;obtain⟨⟨S,Y⟩,⟨T,y1⟩,⟨U,y2⟩,⟨V,y3⟩,X,y4⟩:=A2.x.Ch;obtain⟨L,z0⟩:=A2.h.2 0 _ rfl;obtain⟨M,z1⟩:=A2.h.2 1 _ rfl;obtain⟨O,P,Q⟩:=A2.ne;clear f;go_wp2;refine Zv (v:=Wa #[Hb,Ki 5 0 0 at_]) (by simp[results,results129,go_sem,j,k,m,n,o,p,q,r,t]) rfl ⟨rfl,?_⟩;refine Yr (Yr (Yr (Yr (Yr (Yr (Yr (Yr (Yr A2.below ?_ _) ?_ _) ?_ _) ?_ _) ?_ _) ?_ _) ?_ _) ?_ _) ?_ _<;>(simp only;omega)
theorem dI(s:Da)(at_ end_ deep:Nat)(w:Fa)(N Z fr rm T:Nat)(hfr:wrap64 ((at_:Int)+(Z:Int))=(fr:Int))(hrm:wrap64 ((end_:Int)-(fr:Int))=(rm:Int))(hN:(N:Int)<=(rm:Int))(cut cut2 tc:Da)(hT:IntKind.i64.wrap ((fr:Int)+(N:Int))=(T:Int))(hI:(fr:Int)<=(T:Int)/\(T:Int)<=(s.size:Int)/\(at_:Int)<=(T:Int))(hx:s.extract fr T=cut)(hx2:s.extract at_ T=cut2)(hne:(tc.toList==cut2.toList)=true)(_:wrap64 ((fr:Int)+(N:Int))=(T:Int))(hH:∀W,Calls oa 173 #[La s,Ia ka (at_:Int),Ia ka (end_:Int)] W λe w'=>e=na (E2 false N Z 0)/\Ba W w')(hC:∀W,Calls oa 88 #[La cut] W λe w'=>e=na (La tc)/\Ba W w'):Calls oa 129 #[La s,Ia ka (at_:Int),Ia ka (end_:Int),Ia ka (deep:Int)] w (Hp (Wa #[Aa ⟨at_,T,false,cut,Ma none 0 0⟩,Ki 0 0 0 0]) w):=by
 have p:=Hq hH;have o:=Hq hC;have q:=Hq hT;have f:=Hq hI;have j:=Hq hx;have k:=Hq hx2;have i:=Hq hne;clear hH hC hT hI hx hx2 hne;go_enter func129,ntmps129;go_wp2_with fail
 refine(p _).mono ?_;rintro e n ⟨rfl,d⟩;have c:=ff.start (l:=false) (N:=N) (Z:=Z) d;clear d;go_wp2_with fail
 obtain⟨G,b⟩:=nm n.heap.size;generalize n.alloc (ma #[Oa false,Ia ka (N:Int),Ia ka (Z:Int)] 277)=w2 at c⊢;rw[b]at c⊢;have g:=Hq c;clear c b;rw[hfr];have hT:=q.o;have hx:=j.o;have hx2:=k.o;obtain⟨H,I,Y⟩:=f.o;have hne:=i.o;refine ml (C:=λW=>Ba w2 W) (by kernel_rfl) (by kernel_rfl) ((Zb _ _).drew) ?_;repeat (go_big_quiet_step (first|exact λ_=>rfl|exact λa=>(o _).Cb a| (intro a;rw[(g.cells a).1];exact⟨rfl,rfl⟩)| (intro a;rw[(g.cells a).2];exact⟨rfl,rfl⟩)))
 refine X4 λW m=>?_;have A2:Aside (ff w at_ G false N Z W):=g.step m;have r0:=A2.r0.1;have J:=A2.x.1;have b:=A2.h.1;obtain⟨⟨r,K⟩,⟨t,L⟩,⟨u,M⟩,⟨y,O⟩,z,P⟩:=A2.r0.Ch;obtain⟨⟨B,Q⟩,⟨D,R⟩,⟨E,S⟩,F,U⟩:=A2.r1.four;obtain⟨⟨x0,y0⟩,⟨x1,y1⟩,⟨x2,y2⟩,⟨x3,y3⟩,x4,y4⟩:=A2.x.Ch;obtain⟨V,z0⟩:=A2.h.2 0 _ rfl;obtain⟨X,z1⟩:=A2.h.2 1 _ rfl;obtain⟨n1,n2,n3⟩:=A2.ne;have hx:=j.o;have H:=f.1;have I:=f.2.1;clear m;go_wp2;refine Zv (v:=Wa #[Aa ⟨at_,T,false,cut,Ma none 0 0⟩,Ki 0 0 0 0]) (by simp[results,results129,go_sem,r,t,u,y,z,B,D,E,F]) rfl ⟨rfl,?_⟩;repeat' (refine Yr ?_ (by simp only;omega) _)
 exact A2.below
theorem cJ:(oa.info? 152).map (λi=>(i.zero,i.size,i.bytes))=some (some Hb,5,64):=by kernel_rfl
theorem iT(fr to_:Nat)(l:Bool)(tx:Da)(p:Option Addr)(m c:Nat):∀u∈Ni ⟨fr,to_,l,tx,Ma p m c⟩,u.oneCell'=true:=by intro u a;simp only[Yf,Vi,or_false]at a;rcases a with rfl|rfl|rfl|rfl|rfl<;>rfl
def Sg(d:Nat)(l:List Nat)(at_:Nat)(W:Fa)(e:Ending)(w':Fa):Prop:=Ba W w'/\(∀er,Kx d l at_=.error er->0<er.num/\e=na (Wa #[Hb,Ki er.num 0 0 er.at_]))/\
  ∀x,Kx d l at_=.ok x->∃(b:Bool) (tx:Da) (p:Option Addr) (m c:Nat),Tree Ni kP d w' (λk=>W.heap.size<=k) ⟨at_,x.ra,b,tx,Ma p m c⟩ x/\e=na (Wa #[Aa ⟨at_,x.ra,b,tx,Ma p m c⟩,Ki 0 0 0 0])
structure Dh(d:Nat)(c:Da)(fr x at_ T xb:Nat)(W0 wr:Fa)(v:Value)(ps:List (El×It)):Prop where
 only :Fc xb W0 wr
 xh:Lb wr xb [Oa true,La ⟨#[]⟩,v,Ia ka (at_:Int),Ia ka (T:Int)]
 own:Db wr W0.heap.size 5 v ps.length (ps.flatMap λp=>Ni p.1)
 plain:∀k,v.ownBlock=some k->Plain wr k
 xp:∀p∈ps,Tree Ni kP d wr (λk=>(W0.heap.size<=k/\v.ownBlock≠some k)/\k<wr.heap.size) p.1 p.2
 NA:Nr d c fr=Pg (ps.map (·.2)) (Nr d c x)
 len:ps.length<=x-fr
theorem Dh.nil{d:Nat}{c:Da}{fr at_ T xb:Nat}{W0:Fa}(h:Lb W0 xb [Oa true,La ⟨#[]⟩,Ma none 0 0,Ia ka (at_:Int),Ia ka (T:Int)]):Dh d c fr fr at_ T xb W0 W0 (Ma none 0 0) []:=⟨Fc.refl _ _,h,Db.nil _ _ _,by simp[Value.ownBlock],by simp,by rw[J9,WG],by simp⟩
theorem Lb.tm{w:Fa}{b:Nat}{x y z r s:Value}(h:Lb w b [x,y,z,r,s])(u:Value):Lb (w.setCell ⟨b,2,none⟩ u) b [x,y,u,r,s]:=by
 refine⟨by simpa using h.1,λj v hv=>?_⟩;match j,hv with
 |0,hv=>exact⟨(Zp _ _ _ _ (by simp)).trans (h.2 0 v hv).1,by rw[Z7];exact(h.2 0 v hv).2⟩
 |1,hv=>exact⟨(Zp _ _ _ _ (by simp)).trans (h.2 1 v hv).1,by rw[Z7];exact(h.2 1 v hv).2⟩
 |2,hv=>cases hv;exact⟨Ys _ _ _ (h.2 2 _ rfl).1,by rw[Z7];exact(h.2 2 _ rfl).2⟩
 |3,hv=>exact⟨(Zp _ _ _ _ (by simp)).trans (h.2 3 v hv).1,by rw[Z7];exact(h.2 3 v hv).2⟩
 |4,hv=>exact⟨(Zp _ _ _ _ (by simp)).trans (h.2 4 v hv).1,by rw[Z7];exact(h.2 4 v hv).2⟩
theorem Dh.more{d:Nat}{c:Da}{fr x at_ T xb:Nat}{W0 wr w1 w2:Fa}{v v2:Value}{qs:List (El×It)}{o1 o2 o3:Obj}{e:El}{y:It}(h:Dh d c fr x at_ T xb W0 wr v qs)(tu:xb<W0.heap.size)(hb1:Ba wr w1)(hT:Tree Ni kP d w1 (λk=>wr.heap.size<=k) e y)(hx:fr<=x)(hxs:x<c.size)(hy:Kx d (Ke c) x=.ok y)(hO:Db w2 W0.heap.size 5 v2 (qs.length+1) ((qs.flatMap λp=>Ni p.1)++Ni e))(hg:(((w1.alloc o1).alloc o2).alloc o3).grownBy w2 v.ownBlock)(hf:∀k,v2.ownBlock=some k->v.ownBlock=some k\/(((w1.alloc o1).alloc o2).alloc o3).heap.size<=k)(hP:(∀k,v.ownBlock=some k->Plain (((w1.alloc o1).alloc o2).alloc o3) k)->∀k,v2.ownBlock=some k->Plain w2 k):∃p m c',v2=Ma p m c'/\w2.cell? ⟨xb,2,none⟩=some v/\w2.frozen? ⟨xb,2,none⟩=false/\xb<w2.heap.size/\(∀k j,w1.heap.size<=k->k<w1.heap.size+3->w2.cell? ⟨k,j,none⟩=(((w1.alloc o1).alloc o2).alloc o3).cell? ⟨k,j,none⟩)/\Dh d c fr y.ra at_ T xb W0 (w2.setCell ⟨xb,2,none⟩ (Ma p m c')) (Ma p m c') (qs++[(e,y)]):=by
 obtain⟨p,m,c',rfl⟩:=hO.shape;have F:=h.only.size;have G:=hb1.size;have B:=hg.size;have H:=(kq (V1 hxs) hy).2.1;simp only[Yz]at B hf;have n:=h.own.block;have r:∀k,k<w1.heap.size->(((w1.alloc o1).alloc o2).alloc o3).heap[k]? =w1.heap[k]? :=λk a=>(Z0 _ _ _ (by simp;omega)).trans ((Z0 _ _ _ (by simp;omega)).trans (Z0 _ _ _ a));have f:∀k,k<w1.heap.size->v.ownBlock≠some k->w2.heap[k]? =w1.heap[k]? :=λk a l=>(hg.block k (by simp;omega) (λe=>l e.symm)).trans (r k a);have u:v.ownBlock≠some xb:=λb=>by have :=(n xb b).1;omega
 have z:(Value.slice p m c').ownBlock≠some xb:=λb=>by
  rcases hf xb b with i|i;.exact u i
  .omega
 have C:=(f xb (by omega) u).trans (hb1.block xb (by omega));have g:∀k,k≠xb->(w2.setCell ⟨xb,2,none⟩ (Ma p m c')).heap[k]? =w2.heap[k]? :=λk a=>Zd _ _ _ _ a;have w:=h.xh.Cb C (by omega);refine⟨p,m,c',rfl,(w.2 2 _ rfl).1,(w.2 2 _ rfl).2,by omega,λk j D E=>?_,⟨?_,w.tm _,?_,λk a=>?_,λq t=>?_,?_,?_⟩⟩;.exact Zc (hg.block k (by simp;omega) (λb=>by have :=(n k b.symm).2;omega))
 .have o:=h.only;exact⟨(hg.os.trans hb1.os:w2.os=wr.os).trans o.os,(hg.tape.trans hb1.tape:w2.tape=wr.tape).trans o.tape,(hg.output.trans hb1.output:w2.output=wr.output).trans o.output,by simp;omega,λk a l=>(g k l).trans ((f k (by omega) (λb=>by have :=(n k b).1;omega)).trans ((hb1.block k (by omega)).trans (o.block k a l)))⟩
 .have :=hO.Cb (w':=w2.setCell ⟨xb,2,none⟩ (Ma p m c')) (by simp) (λk _ a=>g k (λb=>z (b▸a)));simpa using this
 .exact(hP (λk a=>(h.plain k a).Cb (by have A:=(n k a).2;rw[r k (by omega),hb1.block k A])) k a).setCell _ _
 .rcases Yc.1 t with t|t
  .refine Tree.Cb (λk a=>?_) (by simp;omega) (λk a s=>(g k (by have :=a.1.1;omega)).trans ((f k (by omega) a.1.2).trans (hb1.block k s))) d (h.xp q t);refine⟨⟨a.1.1,λi=>?_⟩,by simp;omega⟩;rcases hf k i with e3|e3;.exact a.1.2 e3
   .omega
  .obtain rfl:=Y8.1 t;refine Tree.Cb (λk a=>?_) (by simp;omega) (λk a s=>(g k (by have :=a.1;omega)).trans (f k s (λi=>by have :=(n k i).2;have :=a.1;omega))) d hT.Mm;have D:=a.1;have E:=a.2;refine⟨⟨by omega,λi=>?_⟩,by simp;omega⟩;rcases hf k i with e3|e3;.have :=(n k e3).2;omega
   .omega
 .rw[h.NA,VE hxs hy,oF,Xk];rfl
 .have :=h.len;simp only[Zq,Zu,Yq];omega
theorem kN(d:Nat)(s:Da)(at_ end_ deep:Nat)(w:Fa)(N Z fr rm T:Nat)(c:Da)(hc:c.size=T)(hT1:T<=2048)(hft:fr<=T)(hfr:wrap64 ((at_:Int)+(Z:Int))=(fr:Int))(hrm:wrap64 ((end_:Int)-(fr:Int))=(rm:Int))(hN:(N:Int)<=(rm:Int))(hd:(deep:Int)<6)(hT2:wrap64 ((fr:Int)+(N:Int))=(T:Int))(hH:∀W,Calls oa 173 #[La s,Ia ka (at_:Int),Ia ka (end_:Int)] W λe w'=>e=na (E2 true N Z 0)/\Ba W w')(hR:∀W x,Ba w W->x<=T->Calls oa 129 #[La s,Ia ka (x:Int),Ia ka (T:Int),Ia ka ((deep+1:Nat):Int)] W (Sg d (Ke c) x W)):Calls oa 129 #[La s,Ia ka (at_:Int),Ia ka (end_:Int),Ia ka (deep:Int)] w λe w'=>Ba w w'/\(∀er,Nr d c fr=.error er->0<er.num/\e=na (Wa #[Hb,Ki er.num 0 0 er.at_]))/\∀its,Nr d c fr=.ok its->∃(p:Option Addr) (m k:Nat) (ps:List (El×It)),re w' (λk=>w.heap.size<=k) (Ma p m k) ps.length (ps.flatMap λq=>Ni q.1)/\(∀q∈ps,Tree Ni kP d w' (λk=>w.heap.size<=k) q.1 q.2)/\ps.map (·.2)=its/\e=na (Wa #[Aa ⟨at_,T,true,⟨#[]⟩,Ma p m k⟩,Ki 0 0 0 0]):=by
 obtain⟨i0,hi,bl,bm,bn⟩:=Xl cJ;have z:=Hq (A3 hc hT1 hft);have cj:decide (rm<N)=false:=Zt (by omega);have ak:=Hq (Im deep (by omega));have HH:=Hq hH;have HR:=Hq hR;clear hH hR hc hT1 hft;go_enter func129,ntmps129;go_wp2_with fail
 refine(HH _).mono ?_;rintro e a ⟨rfl,b⟩;have R1:=ff.start (l:=true) (N:=N) (Z:=Z) b;clear b;go_wp2_with fail
 obtain⟨hb,I⟩:=nm a.heap.size;generalize a.alloc (ma #[Oa true,Ia ka (N:Int),Ia ka (Z:Int)] 277)=w2 at R1⊢;rw[I]at R1⊢;have R0:=Hq R1;clear R1 I;rw[hfr];refine ml (C:=λW=>Ba w2 W) (by kernel_rfl) (by kernel_rfl) ((Zb _ _).drew) ?_;repeat (go_big_quiet_step (first|exact λ_=>rfl| (intro hW;rw[(R0.cells hW).1];exact⟨rfl,rfl⟩)))
 refine X4 λW hS=>?_;have A2:Aside (ff w at_ hb true N Z W):=R0.step hS;have r0:=A2.r0.1;have ay:=A2.x.1;have I:=A2.h.1;obtain⟨⟨L,f0⟩,⟨M,f1⟩,⟨O,f2⟩,⟨P,f3⟩,Q,f4⟩:=A2.r0.Ch;obtain⟨⟨R,g0⟩,⟨S,g1⟩,⟨U,g2⟩,V,g3⟩:=A2.r1.four;obtain⟨⟨x0,y0⟩,⟨x1,y1⟩,⟨x2,y2⟩,⟨x3,y3⟩,x4,y4⟩:=A2.x.Ch;obtain⟨h0,z0⟩:=A2.h.2 0 _ rfl;obtain⟨h1,z1⟩:=A2.h.2 1 _ rfl;obtain⟨n1,n2,n3⟩:=A2.ne;clear hS;go_wp2;obtain⟨n,r⟩:∃n,n=(W.setCell ⟨w.heap.size+1+1,0,none⟩ (Oa true)).setCell ⟨w.heap.size+1+1,4,none⟩ (Ia ka (T:Int)):=⟨_,rfl⟩;have hX:Lb n (w.heap.size+2) [Oa true,La ⟨#[]⟩,Ma none 0 0,Ia ka (at_:Int),Ia ka (T:Int)]:=by
  rw[r];refine⟨by simpa using ay,λj v hv=>?_⟩;match j,hv with
  |0,hv=>cases hv;exact⟨(Zp _ _ _ _ (by simp)).trans (Ys _ _ _ x0),by rw[Z7,Z7];exact y0⟩
  |1,hv=>cases hv;exact⟨(Zp _ _ _ _ (by simp)).trans ((Zp _ _ _ _ (by simp)).trans x1),by rw[Z7,Z7];exact y1⟩
  |2,hv=>cases hv;exact⟨(Zp _ _ _ _ (by simp)).trans ((Zp _ _ _ _ (by simp)).trans x2),by rw[Z7,Z7];exact y2⟩
  |3,hv=>cases hv;exact⟨(Zp _ _ _ _ (by simp)).trans ((Zp _ _ _ _ (by simp)).trans x3),by rw[Z7,Z7];exact y3⟩
  |4,hv=>cases hv;exact⟨Ys _ _ _ ((Zp _ _ _ _ (by simp)).trans x4),by rw[Z7,Z7];exact y4⟩
 have A3:Aside (Ba w n/\Lb n w.heap.size [Oa false,La ⟨#[]⟩,Ma none 0 0,Ia ka 0,Ia ka 0]/\Lb n (w.heap.size+1) [Ia ka 0,Ia ka 0,Ia ka 0,Ia ka 0]/\Lb n (w.heap.size+2) [Oa true,La ⟨#[]⟩,Ma none 0 0,Ia ka (at_:Int),Ia ka (T:Int)]):=by
  refine⟨?_,?_,?_,hX⟩;.rw[r];exact(A2.below.setCell (by simp only;omega) _).setCell (by simp only;omega) _
  .rw[r];exact(A2.r0.og (by simp only;omega) _).og (by simp only;omega) _
  .rw[r];exact(A2.r1.og (by simp only;omega) _).og (by simp only;omega) _
 rw[<-r];have al:=Hq hX.1;have cq:=ak.o;clear hfr hrm hT2 ak r hX A2 r0 ay I L f0 M f1 O f2 P f3 Q f4 R g0 S g1 U g2 V g3 x0 y0 x1 y1 x2 y2 x3 y3 x4 y4 h0 z0 h1 z1 n1 n2 n3;go_loopg [13] (T-fr) (λg f wr=>∃x v ps,fr<=x/\x<=T/\g=T-x/\f=Ia ka (x:Int)/\Dh d c fr x at_ T (w.heap.size+2) n wr v ps)
 case atStart=>exact⟨fr,_,_,Za _,z.2.2,rfl,rfl,Dh.nil A3.2.2.2⟩
 case round=>
  obtain⟨x,v,ps,bc,hx,rfl,rfl,hH⟩:=hrel;obtain⟨p0,m0,c0,rfl⟩:=hH.own.shape;have cw:=hH.only.size;have t:=hH.only.below A3.1 (by omega) A3.1.size;have aw:=(hH.xh.2 2 _ rfl).1;have bf:=(hH.xh.2 4 _ rfl).1;have bj:=hH.xh.1;have u:=A3.2.1.only hH.only (by omega);have G:=A3.2.2.1.only hH.only (by omega);by_cases ag:x<T
  .have bi:(x:Int)<(T:Int):=by omega
   have HC:=Hq (HR wr x t hx);have A4:=Hq (A4 hH t u G);clear hH t u G;go_wp2_with fail
   refine HC.mono ?_;rintro e a ⟨b,Y,ac⟩;have ba:=b.size;rcases hr:Kx d (Ke c) x with er|y
   .obtain⟨ah,rfl⟩:=Y er hr;obtain⟨en,H⟩:=nm er.num;obtain⟨ea,ae⟩:=nm er.at_;have A5:=Hq (A5 (by rw[A4.1.NA,mE (by rw[z.1];exact ag) hr];rfl:Nr d c fr=.error er) H ae (by rw[<-H];exact ah:0<en) (Below.behind A4.2.1 b));rw[H,ae];have ch:((en:Int)==0)=false:=by have :=A5.2.2.2.1;simp;omega
    have ci:((en:Int) != 0)=true:=by have :=A5.2.2.2.1;simp;omega
    have E:=A4.2.2.1.below b;have K:=A4.2.2.2.below b;have s0:=E.1;have s1:=K.1;obtain⟨L,f0⟩:=E.2 0 _ rfl;obtain⟨M,f1⟩:=E.2 1 _ rfl;obtain⟨O,f2⟩:=E.2 2 _ rfl;obtain⟨P,f3⟩:=E.2 3 _ rfl;obtain⟨Q,f4⟩:=E.2 4 _ rfl;obtain⟨R,g0⟩:=K.2 0 _ rfl;obtain⟨S,g1⟩:=K.2 1 _ rfl;obtain⟨U,g2⟩:=K.2 2 _ rfl;obtain⟨V,g3⟩:=K.2 3 _ rfl;have n1:¬w.heap.size=a.heap.size:=by omega
    have n2:¬w.heap.size+1=a.heap.size:=by omega
    have n3:¬w.heap.size=a.heap.size+1:=by omega
    have n4:¬w.heap.size+1=a.heap.size+1:=by omega
    clear E K b Y ac hr H ae ah HC;go_wp2;go_region;all_goals go_wp2
    all_goals refine Zv (v:=Wa #[Hb,Ki en 0 0 ea]) (by simp[results,results129,go_sem,L,M,O,P,Q,R,S,U,V,s0,s1]) rfl ⟨?_,λcf o=>?_,λits o=>?_⟩
    all_goals first
     | (rw[A5.1]at o;cases o;done)
     | (rw[A5.1]at o;cases o;rw[A5.2.1,A5.2.2.1];exact⟨A5.2.2.2.1,rfl⟩)
     |skip
    all_goals first
     |refine Kb (V8 (V8 ?_ ?_ _) ?_ _)
     |refine V8 (V8 ?_ ?_ _) ?_ _
    all_goals repeat' (refine Yr ?_ ?_ _)
    all_goals first
     |exact A5.2.2.2.2
     | (simp only;omega)
     | (simp;omega)
   .obtain⟨l,tx,p,m,X,hT,rfl⟩:=ac y hr;obtain⟨_,D,aj⟩:=kq (s:=c) (by rw[z.1];exact hx) hr;obtain⟨i,ai⟩:=nm y.ra;rw[ai]at hT D aj⊢;rw[show Ki 0 0 0 0=Value.agg #[Ia ka 0,Ia ka 0,Ia ka 0,Ia ka 0]from rfl];have hO:=A4.1.own;have HO:Hid (∀o1 o2 o3,Db (((a.alloc o1).alloc o2).alloc o3) n.heap.size 5 (Ma p0 m0 c0) ps.length (ps.flatMap λp=>Ni p.1)):=λo1 o2 o3=>(((hO.below b).alloc o1).alloc o2).alloc o3;have t2:=(b.cell (p:=⟨w.heap.size+2,2,none⟩) bj).trans aw;have A5:Aside (Ba wr a/\Tree Ni kP d a (λk=>wr.heap.size<=k) ⟨x,i,l,tx,Ma p m X⟩ y/\Kx d (Ke c) x=.ok y/\y.ra=i/\x<i/\i<=T/\ps.length<=2048/\n.heap.size<=a.heap.size):=⟨b,hT,hr,ai,D,by have :=z.1;omega,by have :=A4.1.len;have :=z.2.1;omega,by omega⟩;have bq:=t2;have s0:w.heap.size+2<a.heap.size:=by omega
    have dj:w.heap.size+1+1<a.heap.size:=by omega
    have dk:w.heap.size+1+1<a.heap.size+1:=by omega
    have dh:¬w.heap.size+1+1=a.heap.size:=by omega
    have n1:¬w.heap.size+2=a.heap.size:=by omega
    have n2:¬w.heap.size+2=a.heap.size+1:=by omega
    have n3:¬w.heap.size+2=a.heap.size+1+1:=by omega
    clear hO b Y ac hr ai hT D aj HC ba aw bf;go_wp2_with (at_builtin;refine ll _ rfl _ _ 150 rfl 152 i0 Hb 5 64 underlying150 hi bl bm bn rfl (by decide) n.heap.size _ ps.length _ rfl (HO _ _ _) (a.heap.size+1+1) 0 1 1 (Ni ⟨x,i,l,tx,Ma p m X⟩) rfl rfl ?c1 ?c5 ?c2 ?c3 ?c4 ?_)
    case c1=>have :=wg ((a.alloc (ma (Ni ⟨x,i,l,tx,Ma p m X⟩).toArray 152)).alloc (ma #[Ia ka 0,Ia ka 0,Ia ka 0,Ia ka 0] 91)) (Ni ⟨x,i,l,tx,Ma p m X⟩) 152;simpa using this
    case c5=>exact iT _ _ _ _ _ _ _
    case c2=>have :=A5.2.2.2.2.2.2.1;unfold maxLen;omega
    case c3=>have :=A5.2.2.2.2.2.2.1;omega
    case c4=>have :=A5.2.2.2.2.2.2.2;simp;omega
    intro v2 w2 am aq ao au;obtain⟨p2,m2,c2,rfl,u1,u2,u3,u4,hM⟩:=A4.1.more al A5.1 A5.2.1 bc (by rw[z.1];exact ag) A5.2.2.1 am aq (by simpa using ao) au;have d4:w2.cell? ⟨a.heap.size,4,none⟩=some (Ia ka (i:Int)):=by rw[u4 _ _ (Za _) (by omega),Z8 _ _ _ (by simp;omega),Z8 _ _ _ (by simp),Ze];rfl
    have A6:Aside (Dh d c fr i at_ T (w.heap.size+2) n (w2.setCell ⟨w.heap.size+2,2,none⟩ (Ma p2 m2 c2)) (Ma p2 m2 c2) (ps++[(⟨x,i,l,tx,Ma p m X⟩,y)])):=by have :=A5.2.2.2.1;subst this;exact hM
    have n4:¬a.heap.size=w.heap.size+2:=by omega
    have di:¬a.heap.size=w.heap.size+1+1:=by omega
    have dm:=u1;have dn:=u2;have dq:=u3;clear am aq ao au HO t2 bq hM u4;go_wp2;go_roundg (T-i)
    case measure=>have :=A5.o;omega
    case rel=>exact⟨i,_,_,by have :=A5.o;omega,A5.2.2.2.2.2.1,rfl,rfl,A6.o⟩
  .have bi:(T:Int)<=(x:Int):=by omega
   have az:x=T:=by omega
   have A4:Aside (Dh d c fr x at_ T (w.heap.size+2) n wr (Ma p0 m0 c0) ps/\Ba w wr/\x=T):=⟨hH,t,az⟩;have bv:=(hH.xh.2 0 _ rfl).1;have df:=(hH.xh.2 1 _ rfl).1;have dg:=(hH.xh.2 3 _ rfl).1;obtain⟨L,f0⟩:=u.2 0 _ rfl;obtain⟨M,f1⟩:=u.2 1 _ rfl;obtain⟨O,f2⟩:=u.2 2 _ rfl;obtain⟨P,f3⟩:=u.2 3 _ rfl;obtain⟨Q,f4⟩:=u.2 4 _ rfl;obtain⟨R,g0⟩:=G.2 0 _ rfl;obtain⟨S,g1⟩:=G.2 1 _ rfl;obtain⟨U,g2⟩:=G.2 2 _ rfl;obtain⟨V,g3⟩:=G.2 3 _ rfl;clear hH t u G ag az;go_wp2;refine Zv (v:=Wa #[Aa ⟨at_,T,true,⟨#[]⟩,Ma p0 m0 c0⟩,Ki 0 0 0 0]) (by simp[results,results129,go_sem,L,M,O,P,Q,R,S,U,V]) rfl ?_;obtain⟨J,hb,o⟩:=A4.o;have dc:=J.only.size;have de:=al.o;have ar:Nr d c fr=.ok (ps.map (·.2)):=by rw[J.NA,AH (by rw[z.1,o];exact Za _)];simp[Pg]
   refine⟨?_,λer o=>?_,λits o=>?_⟩
   .repeat' (refine Yr ?_ ?_ _)
    all_goals first
     |exact hb
     | (simp only;omega)
   .rw[ar]at o;cases o
   .rw[ar]at o;cases o;refine⟨p0,m0,c0,ps,?_,λq hq=>?_,rfl,rfl⟩;.refine(J.own.rowAt (F:=λk=>n.heap.size<=k) (λk B=>(J.own.block k B).1) J.plain).Cb (λk B=>by omega) (by simp) (λk B _=>?_);rw[Zd _ _ _ _ (by simp only;omega),Zd _ _ _ _ (by simp only;omega),Zd _ _ _ _ (by simp only;omega),Zd _ _ _ _ (by simp only;omega),Zd _ _ _ _ (by simp only;omega),Zd _ _ _ _ (by simp only;omega),Zd _ _ _ _ (by simp only;omega),Zd _ _ _ _ (by simp only;omega),Zd _ _ _ _ (by simp only;omega)]
    .refine Tree.Cb (λk B=>by have :=B.1.1;omega) (by simp) (λk B _=>?_) d (J.xp q hq);have cu:=B.1.1;rw[Zd _ _ _ _ (by simp only;omega),Zd _ _ _ _ (by simp only;omega),Zd _ _ _ _ (by simp only;omega),Zd _ _ _ _ (by simp only;omega),Zd _ _ _ _ (by simp only;omega),Zd _ _ _ _ (by simp only;omega),Zd _ _ _ _ (by simp only;omega),Zd _ _ _ _ (by simp only;omega),Zd _ _ _ _ (by simp only;omega)]
end
section
theorem jA:∀l:List Nat,(∀x∈l,x<256)->Nb (Kl l)=l
 | [],_=>rfl
 |x::r,h=>by have hx:=h x (by simp);have e:Kl (x::r)=(x/16)::(x%16)::Kl r:=rfl;rw[e,Nb,jA r (λy hy=>h y (by simp[hy]))];congr 1;omega
theorem II{l:List Nat}(h:∀x∈l,x<256):∀z∈Kl l,z<16:=by intro z a;unfold Kl at a;obtain⟨x,b,a⟩:=List.mem_flatMap.1 a;have :=h x b;simp only[Yf,Vi,or_false]at a;omega
variable{c:Nat}{r:List Nat}
theorem aR(hr:∀x∈r,x<256)(leaf:Bool):Kj (c%16::Kl r) leaf=((if leaf then 48 else 16)+c%16)::r:=by
 unfold Kj;have a:(c%16::Kl r).length%2=1:=by rw[Zu,Cj];omega
 rw[a,Zo rfl];simp only[List.getElem!_cons_zero,Y6,Yx,jA r hr];cases leaf;.simp
 .simp;omega
theorem eK(hr:∀x∈r,x<256)(leaf:Bool):Kj (Kl r) leaf=(if leaf then 32 else 0)::r:=by
 unfold Kj;have a:(Kl r).length%2=0:=by rw[Cj];omega
 rw[a,Zj Nat.zero_ne_one,Yx,jA r hr];rfl
def oc(p:List Nat)(e:Ending):Prop:=(∀q leaf,K6 p=some (q,leaf)->e=na (Wa #[La (Kg q),Oa leaf,Ia ka 0]))/\(K6 p=none->e=na (Wa #[La ⟨#[]⟩,Oa false,Ia ka 3]))
variable{p:List Nat}
theorem oc.yes{q:List Nat}{leaf:Bool}(h:K6 p=Option.some (q,leaf)):oc p (na (Wa #[La (Kg q),Oa leaf,Ia ka 0])):=⟨λq' l' h'=>(by rw[h]at h';cases h';rfl),λh'=>(by rw[h]at h';cases h')⟩
theorem oc.no(h:K6 p=Option.none):oc p (na (Wa #[La ⟨#[]⟩,Oa false,Ia ka 3])):=⟨λq' l' h'=>(by rw[h]at h';cases h'),λ_=>rfl⟩
theorem cO(h:c/16=1):K6 (c::r)=Option.some (c%16::Kl r,false):=by simp only[K6];rw[h];rfl
theorem tJ(h:c/16=3):K6 (c::r)=Option.some (c%16::Kl r,true):=by simp only[K6];rw[h];rfl
theorem US(h:c=0):K6 (c::r)=Option.some (Kl r,false):=by subst h;rfl
theorem oQ(h:c=32):K6 (c::r)=Option.some (Kl r,true):=by subst h;rfl
theorem vK(h1:c/16≠1)(h3:c/16≠3)(h0:c≠0)(h32:c≠32)(_h:c<256):K6 (c::r)=Option.none:=by
 simp only[K6];by_cases a:3<c/16;.rw[Zo a]
 .rw[Zj a,Zj (by omega),Zj (by omega)]
theorem js{a b:Da}(h:a≠b):(a.toList==b.toList)=false:=by simp only[Xe,ne_eq];intro e;apply h;rw[Vn,Vn]at e;exact ByteArray.ext (Array.toList_inj.1 e)
theorem YI(s:Da)(w:Fa)(hs:s.size<=4194304):Calls oa 36 #[La s] w λe w'=>oc (Ke s) e/\Ba w w':=by
 have D:=ta s;have E:=sh s;have O:(Kg (Kl (Ke s))).size=2*s.size:=by rw[me,Cj,D]
 have y:Ke (Kg (Kl (Ke s)))=Kl (Ke s):=qg (λz hz=>by have :=II E z hz;omega);have HN:Hid (∀W,Calls oa 85 #[La s] W λe w'=>e=na (La (Kg (Kl (Ke s))))/\Ba W w'):=λW=>aQ s W hs;have u:=II E;rw[<-y]at u;have U:Hid (∀(k:Nat) (leaf:Bool) W,k<=2->Calls oa 83 #[La ((Kg (Kl (Ke s))).extract k (2*s.size)),Oa leaf] W λe w'=>e=na (La (Kg (Kj ((Kl (Ke s)).drop k) leaf)))/\Ba W w'):=λk leaf W hk=>by
  have hcut:Ke ((Kg (Kl (Ke s))).extract k (2*s.size))=(Kl (Ke s)).drop k:=by rw[Ok,y,Zz (by rw[Yi,Cj,D];omega)]
  have h:=pC ((Kg (Kl (Ke s))).extract k (2*s.size)) leaf W (by rw[ByteArray.size_extract,O];omega) (λx l=>by rw[hcut]at l;rw[y]at u;exact u x (Yu l));rw[hcut]at h;exact h
 obtain⟨L,X⟩:=nm (Kg (Kl (Ke s)));rw[X]at HN U O;cases b:Ke s with
 |nil=>
  have hz:s.size=0:=by rw[<-D,b];rfl
  have ao:(L.size:Int)=0:=by omega
  have d:Hid (Ke s=[]):=b;clear U u y O E D hs b hz X;go_enter func36,ntmps36;go_wp2_with fail
  refine(HN _).mono ?_;rintro e w1 ⟨rfl,K⟩;have A1:Aside (Ba w w1):=K;clear K;go_wp2;go_loopg [6] 1 (λgh i wr=>i=Ia ka 1/\Ba w wr)
  case atStart=>exact⟨rfl,A1.o⟩
  case round=>obtain⟨rfl,M⟩:=hrel;have A2:Aside (Ba w wr):=M;clear M;go_wp2;go_ret3;exact⟨.no rfl,A2.o⟩
 |cons c r=>
  have aj:s.size=r.length+1:=by rw[<-D,b];rfl
  have Y:c<256:=E c (by rw[b];simp);have N:∀x∈r,x<256:=λx l=>E x (by rw[b];simp[l]);have v:Kl (c::r)=(c/16)::(c%16)::Kl r:=rfl;have ai:s=Kg (c::r):=by rw[<-b,Bn]
  have G:Hid (∀(leaf:Bool) W,Calls oa 83 #[La (L.extract 1 (2*s.size)),Oa leaf] W λe w'=>e=na (La (Kg (((if leaf then 48 else 16)+c%16)::r)))/\Ba W w'):=λleaf W=>by have h:=U 1 leaf W (by omega);rw[b,v,Y6,Yx,aR N]at h;exact h
  have H:Hid (∀(leaf:Bool) W,Calls oa 83 #[La (L.extract 2 (2*s.size)),Oa leaf] W λe w'=>e=na (La (Kg ((if leaf then 32 else 0)::r)))/\Ba W w'):=λleaf W=>by have h:=U 2 leaf W (by omega);rw[b,v,Y6,Y6,Yx,eK N]at h;exact h
  have q1:L.extract 1 (2*s.size)=Kg (c%16::Kl r):=by rw[<-X,<-Bn ((Kg (Kl (Ke s))).extract 1 (2*s.size)),Ok,y,b,v,Y6,Yx,Zz (by rw[Zu,Cj];omega)]
  have q2:L.extract 2 (2*s.size)=Kg (Kl r):=by rw[<-X,<-Bn ((Kg (Kl (Ke s))).extract 2 (2*s.size)),Ok,y,b,v,Y6,Y6,Yx,Zz (by rw[Cj];omega)]
  have V:Hid (L.extract 1 (2*s.size)=Kg (c%16::Kl r)/\L.extract 2 (2*s.size)=Kg (Kl r)):=⟨q1,q2⟩;have ah:∀a,a<256->(Kg (a::r)=s↔a=c):=λa ha=>by
   rw[ai];constructor;.intro h;have :=Y5 Ke h;rw[qg (by intro x l;rcases Yf.1 l with rfl|l;exact ha;exact N x l),qg (by intro x l;rcases Yf.1 l with rfl|l;exact Y;exact N x l)]at this;injection this
   .rintro rfl;rfl
  have d:Hid (Ke s=c::r/\c<256):=⟨b,Y⟩;have ag:L.size=2*s.size:=O;have am:Hid (s.size=r.length+1/\s.size<=4194304):=⟨aj,hs⟩;have l1:(1:Int)<=(L.size:Int):=by omega
  have l2:(2:Int)<=(L.size:Int):=by omega
  obtain⟨I,o⟩:=nm (L.extract 1 (2*s.size));obtain⟨J,t⟩:=nm (L.extract 2 (2*s.size));rw[<-ag]at o t G H V;have j:=Hq ah;clear U u y E D hs b X v ai q1 q2 aj Y N ah O ag;go_enter func36,ntmps36;go_wp2_with fail
  refine(HN _).mono ?_;rintro e w1 ⟨rfl,K⟩;have A1:Aside (Ba w w1):=K;clear K HN;go_wp2;go_loopg [6] 2 (λgh i wr=>∃k:Nat,gh=3-k/\k<=3/\i=Ia ka (k:Int)/\Ba w wr/\(k=1\/(k=2/\c/16≠1/\c/16≠3)\/(k=3/\c/16≠1/\c/16≠3/\c≠0/\c≠32)))
  case atStart=>exact⟨1,rfl,by omega,rfl,A1.o,.inl rfl⟩
  case round=>
   obtain⟨k,rfl,hk,rfl,M,ae⟩:=hrel;have B:Aside (Ba w wr):=M;clear M;rcases ae with rfl|⟨rfl,n1,n3⟩|⟨rfl,n1,n3,n0,n32⟩
   .rw[show((1:Nat):Int)=1 from rfl];by_cases R:c/16=1
    .have C:Kg (((16:Nat)+c%16)::r)=s:=(j _ (by have :=d.2;omega)).2 (by have :=d.2;omega);have m:Hid (∀W,Calls oa 83 #[La I,Oa false] W λe w'=>e=na (La s)/\Ba W w'):=λW=>by have h:=G false W;rw[o]at h;have n:Calls oa 83 #[La I,Oa false] W λe w'=>e=na (La (Kg (((16:Nat)+c%16)::r)))/\Ba W w':=h;rw[C]at n;exact n
     have F:Hid (oc (c::r) (na (Wa #[La I,Oa false,Ia ka 0]))):=by have h:=oc.yes (p:=c::r) (q:=c%16::Kl r) (leaf:=false) (cO (by first|assumption|omega));rw[<-o,V.1];exact h
     clear C;go_wp2_with fail
     refine(m _).mono ?_;rintro e P ⟨rfl,b⟩;have A2:Aside (Ba w P):=Below.behind B b;clear b;go_wp2;go_ret3;exact⟨F.o,A2.o⟩
    have f:Hid (∀W,Calls oa 83 #[La I,Oa false] W λe w'=>e=na (La (Kg (((16:Nat)+c%16)::r)))/\Ba W w'):=λW=>by have h:=G false W;rw[o]at h;exact h
    have r2:Kg (((16:Nat)+c%16)::r)≠s:=λh=>by have :=(j _ (by have :=d.2;omega)).1 h;have :=d.2;omega
    generalize Kg (((16:Nat)+c%16)::r)=a2 at f r2;have ak:(a2.toList==s.toList)=false:=js r2;go_wp2_with fail
    refine(f _).mono ?_;rintro e P ⟨rfl,b⟩;have A2:Aside (Ba w P):=Below.behind B b;clear b f;by_cases Z:c/16=3
    .have C:Kg (((48:Nat)+c%16)::r)=s:=(j _ (by have :=d.2;omega)).2 (by have :=d.2;omega);have m:Hid (∀W,Calls oa 83 #[La I,Oa true] W λe w'=>e=na (La s)/\Ba W w'):=λW=>by have h:=G true W;rw[o]at h;have n:Calls oa 83 #[La I,Oa true] W λe w'=>e=na (La (Kg (((48:Nat)+c%16)::r)))/\Ba W w':=h;rw[C]at n;exact n
     have F:Hid (oc (c::r) (na (Wa #[La I,Oa true,Ia ka 0]))):=by have h:=oc.yes (p:=c::r) (q:=c%16::Kl r) (leaf:=true) (tJ (by first|assumption|omega));rw[<-o,V.1];exact h
     clear C;go_wp2_with fail
     refine(m _).mono ?_;rintro e Q ⟨rfl,b⟩;have A3:Aside (Ba w Q):=Below.behind A2 b;clear b;go_wp2;go_ret3;exact⟨F.o,A3.o⟩
    have g:Hid (∀W,Calls oa 83 #[La I,Oa true] W λe w'=>e=na (La (Kg (((48:Nat)+c%16)::r)))/\Ba W w'):=λW=>by have h:=G true W;rw[o]at h;exact h
    have r3:Kg (((48:Nat)+c%16)::r)≠s:=λh=>by have :=(j _ (by have :=d.2;omega)).1 h;have :=d.2;omega
    generalize Kg (((48:Nat)+c%16)::r)=a3 at g r3;have al:(a3.toList==s.toList)=false:=js r3;go_wp2_with fail
    refine(g _).mono ?_;rintro e Q ⟨rfl,b⟩;have A3:Aside (Ba w Q):=Below.behind A2 b;clear b g;go_wp2;go_roundg 1
    case measure=>omega
    case rel=>exact⟨2,rfl,by omega,rfl,A3.o,.inr (.inl ⟨rfl,R,Z⟩)⟩
   .rw[show((2:Nat):Int)=2 from rfl];by_cases S:c=0
    .have C:Kg ((0)::r)=s:=(j _ (by have :=d.2;omega)).2 (by have :=d.2;omega);have m:Hid (∀W,Calls oa 83 #[La J,Oa false] W λe w'=>e=na (La s)/\Ba W w'):=λW=>by have h:=H false W;rw[t]at h;have n:Calls oa 83 #[La J,Oa false] W λe w'=>e=na (La (Kg ((0)::r)))/\Ba W w':=h;rw[C]at n;exact n
     have F:Hid (oc (c::r) (na (Wa #[La J,Oa false,Ia ka 0]))):=by have h:=oc.yes (p:=c::r) (q:=Kl r) (leaf:=false) (US (by first|assumption|omega));rw[<-t,V.2];exact h
     clear C;go_wp2_with fail
     refine(m _).mono ?_;rintro e P ⟨rfl,b⟩;have A2:Aside (Ba w P):=Below.behind B b;clear b;go_wp2;go_ret3;exact⟨F.o,A2.o⟩
    have f:Hid (∀W,Calls oa 83 #[La J,Oa false] W λe w'=>e=na (La (Kg ((0)::r)))/\Ba W w'):=λW=>by have h:=H false W;rw[t]at h;exact h
    have r2:Kg ((0)::r)≠s:=λh=>by have :=(j _ (by have :=d.2;omega)).1 h;have :=d.2;omega
    generalize Kg ((0)::r)=a2 at f r2;have ak:(a2.toList==s.toList)=false:=js r2;go_wp2_with fail
    refine(f _).mono ?_;rintro e P ⟨rfl,b⟩;have A2:Aside (Ba w P):=Below.behind B b;clear b f;by_cases ac:c=32
    .have C:Kg ((32)::r)=s:=(j _ (by have :=d.2;omega)).2 (by have :=d.2;omega);have m:Hid (∀W,Calls oa 83 #[La J,Oa true] W λe w'=>e=na (La s)/\Ba W w'):=λW=>by have h:=H true W;rw[t]at h;have n:Calls oa 83 #[La J,Oa true] W λe w'=>e=na (La (Kg ((32)::r)))/\Ba W w':=h;rw[C]at n;exact n
     have F:Hid (oc (c::r) (na (Wa #[La J,Oa true,Ia ka 0]))):=by have h:=oc.yes (p:=c::r) (q:=Kl r) (leaf:=true) (oQ (by first|assumption|omega));rw[<-t,V.2];exact h
     clear C;go_wp2_with fail
     refine(m _).mono ?_;rintro e Q ⟨rfl,b⟩;have A3:Aside (Ba w Q):=Below.behind A2 b;clear b;go_wp2;go_ret3;exact⟨F.o,A3.o⟩
    have g:Hid (∀W,Calls oa 83 #[La J,Oa true] W λe w'=>e=na (La (Kg ((32)::r)))/\Ba W w'):=λW=>by have h:=H true W;rw[t]at h;exact h
    have r3:Kg ((32)::r)≠s:=λh=>by have :=(j _ (by have :=d.2;omega)).1 h;have :=d.2;omega
    generalize Kg ((32)::r)=a3 at g r3;have al:=js r3;go_wp2_with fail
    refine(g _).mono ?_;rintro e Q ⟨rfl,b⟩;have A3:Aside (Ba w Q):=Below.behind A2 b;clear b g;go_wp2;go_roundg 0
    case measure=>omega
    case rel=>exact⟨3,rfl,by omega,rfl,A3.o,.inr (.inr ⟨rfl,n1,n3,S,ac⟩)⟩
   .rw[show((3:Nat):Int)=3 from rfl];have F:Hid (oc (c::r) (na (Wa #[La ⟨#[]⟩,Oa false,Ia ka 3]))):=by have h:=oc.no (p:=c::r) (vK n1 n3 n0 n32 d.2);exact h
    clear n1 n3 n0 n32;go_wp2;go_ret3;exact⟨F.o,B.o⟩
end
end Go.Proofs.YtpfbdlnibdfcoaaGreatDoor
