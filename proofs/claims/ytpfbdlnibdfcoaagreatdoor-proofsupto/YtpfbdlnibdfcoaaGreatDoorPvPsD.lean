import Derived.Test.YtpfbdlnibdfcoaaGreatDoorPvPsB
namespace Go.Proofs.YtpfbdlnibdfcoaaGreatDoor
open Go.RowKit Tryz
open Value renaming int->Ia,string->La,slice->Ma,bool->Oa,pointer->Qa,agg->Sa,tuple->Wa,iface->ca,nilIface->da
open IntKind renaming i64->ka
open Obj renaming cells->ma
open Ending renaming returned->na
open Tryz renaming prog->oa
set_option maxRecDepth 100000
set_option maxHeartbeats 0
section
theorem WA:(oa.info? 54).map (λi=>(i.zero,i.size,i.bytes))=some (some (Qa none),1,8):=by kernel_rfl
theorem bA:(oa.info? 56).map (λi=>(i.zero,i.size,i.bytes))=some (some (Qa none),1,8):=by kernel_rfl
variable{w:Fa}{B bw N:Nat}
theorem GG{w2:Fa}{i:Nat}{v v2:Value}{o:Obj}{cs:List Value}(hg:(w.alloc o).grownBy w2 v.ownBlock)(hO:Db w2 B 1 v2 N cs)(hf:∀k,v2.ownBlock=some k->v.ownBlock=some k\/w.heap.size+1<=k)(hbw:bw<w.heap.size)(hne:v.ownBlock≠some bw):Db (w2.setCell ⟨bw,i,none⟩ v2) B 1 v2 N cs/\(∀k,k<w.heap.size->v.ownBlock≠some k->k≠bw->(w2.setCell ⟨bw,i,none⟩ v2).heap[k]? =w.heap[k]?)/\(∀g,v2.ownBlock=some g->v.ownBlock=some g\/w.heap.size<=g)/\w.heap.size<=(w2.setCell ⟨bw,i,none⟩ v2).heap.size/\w2.heap[bw]? =w.heap[bw]? /\(w2.setCell ⟨bw,i,none⟩ v2).os=w.os/\(w2.setCell ⟨bw,i,none⟩ v2).tape=w.tape/\(w2.setCell ⟨bw,i,none⟩ v2).output=w.output:=by
 have n:(w.alloc o).heap.size=w.heap.size+1:=by simp
 have m:=hg.size;have j:∀g,v2.ownBlock=some g->v.ownBlock=some g\/w.heap.size<=g:=λg e=>(hf g e).imp id λh=>by omega
 have l:(w2.setCell ⟨bw,i,none⟩ v2).heap.size=w2.heap.size:=by simp
 have a:∀k,k<w.heap.size->v.ownBlock≠some k->w2.heap[k]? =w.heap[k]? :=λk c e=>(hg.block k (by omega) λb=>e b.symm).trans (Z0 _ _ _ c);refine⟨hO.Cb (Jq l.symm) λk _ e=>Zd _ _ _ _ λb=>?_,λk c e f=>(Zd _ _ _ _ f).trans (a k c e),j,by omega,a bw hbw hne,hg.os,hg.tape,hg.output⟩;have d:=b;subst d;rcases j k e with h|h;.exact hne h
 .omega
variable{S:Bb}{q:Bs}{ps:List Pq}
theorem WR{bx bz:Nat}{v:Value}{l:List Ed}(h:WM B S w bw q ps)(hp:Pr B S w bx bz v l)(hfx:∀p∈ps,∀g,p.has g->¬(Pq.mk bx bz v l).has g)(hyb:∀g,(Pq.mk bx bz v l).has g->¬Nv bw q g)(hye:∀e∈q.es,∀g,e.has g->¬(Pq.mk bx bz v l).has g):Calls oa 10 #[Qa (some ⟨bw,0,none⟩),Qa (some ⟨bx,0,none⟩),Qa (some ⟨bz,0,none⟩)] w λe w'=>e=na (Oa true)/\∃q' ps',WM B S w' bw q' ps'/\q'.n=q.n/\q'.es=q.es/\yd B (Nv bw q) S S w w'/\∀p∈ps',p∈ps\/p.l=l:=by
 obtain⟨vx,vz,X,es,N⟩:=q;obtain⟨V,s,O,am⟩:=h.ox.shape;obtain⟨K,D,F,ao⟩:=h.oz.shape;simp only at am ao;subst am ao;have ak:s=ps.length:=by
  rcases h.ox.2 with⟨c,W⟩|⟨g,cap,c,_⟩;.simp only[Z3]at c;omega
  .simp only[Z3]at c;exact c.2.1
 have al:D=ps.length:=by
  rcases h.oz.2 with⟨c,W⟩|⟨g,cap,c,_⟩;.simp only[Z3]at c;omega
  .simp only[Z3]at c;exact c.2.1
 obtain⟨⟨d1,d2⟩,f1,f2⟩:=h.cells;simp only at d1 d2;by_cases C:ps.length<5
 .have i1:(s:Int)<5:=by omega
  obtain⟨i0,hi,az,ba,bc⟩:=Xl WA;obtain⟨j0,hj,au,aw,ay⟩:=Xl bA;have f:=Hq h;have b:=Hq (A5 hp hfx hyb hye C);have M:Hid (∀o,Db (w.alloc o) B 1 (Ma V s O) ps.length (ps.map λp=>Value.pointer (some ⟨p.bx,0,none⟩))):=λo=>h.ox.alloc o;have m:Hid (∀t,(w.alloc (ma #[Qa (some ⟨bx,0,none⟩)] t)).rangeAt w.heap.size 0 [Qa (some ⟨bx,0,none⟩)]):=λt=>wg w [Qa (some ⟨bx,0,none⟩)] t;have HB:=Hq h.wa.le;clear h hp hfx hyb hye C ak al;go_enter func10,ntmps10;go_upto_region 5 with(at_builtin;refine ll _ rfl _ _ 27 rfl 54 i0 (Qa none) 1 8 underlying27 hi az ba bc rfl (by decide) B (Ma V s O) _ _ rfl (M _) w.heap.size 0 1 1 [Qa (some ⟨bx,0,none⟩)] rfl rfl (m _) (by simp[Value.oneCell']) (by have :=b.2.2.2.2;unfold maxLen;omega) (by have :=b.2.2.2.2;omega) (by have :=HB.o;simp;omega) ?_)
  intro v2 w2 Q ah ae aq;obtain⟨G,u,P,z,j,H,I,J⟩:=GG (i:=1) ah Q ae f.lt f.bx;have r:=De (cs:=[Ma none 0 0,Ma V s O,Ma K D F,X,Ma none 0 0,Ia ka (N:Int)]) (j.trans f.heap) 1 v2;have c:=(Zc (a:=⟨bw,1,none⟩) j).trans d1;have W:=(Yd (a:=⟨bw,1,none⟩) j).trans f1;have R:∀o,Db ((w2.setCell ⟨bw,1,none⟩ v2).alloc o) B 1 (Ma K D F) ps.length (ps.map λp=>Value.pointer (some ⟨p.bz,0,none⟩)):=λo=>(f.oz.Cb z λk hk e=>u k hk (λe'=>(f.xz k e').1 e) λe'=>f.bz (e'▸e)).alloc o;obtain⟨q1,n1,k1,rfl⟩:=Q.shape;clear Q ah ae aq M m;go_upto_region 5 with fail
  obtain⟨E,ac⟩:=nm (w2.setCell ⟨bw,1,none⟩ (Ma q1 n1 k1));rw[ac]at G u z H I J r R⊢;have d:=Hq (A6 G u P z H (A3 I J r));have Y:=Ju E _ 2 _ _ (0,0) r;have Z:=Kd E _ 2 _ _ r;have M:=Hq R;have m:Hid (∀t,(E.alloc (ma #[Qa (some ⟨bz,0,none⟩)] t)).rangeAt E.heap.size 0 [Qa (some ⟨bz,0,none⟩)]):=λt=>wg E [Qa (some ⟨bz,0,none⟩)] t;clear G u P z j H I J r R ac c W d1 d2 f1 f2;go_upto_region 6 with(at_builtin;refine ll _ rfl _ _ 28 rfl 56 j0 (Qa none) 1 8 underlying28 hj au aw ay rfl (by decide) B (Ma K D F) _ _ rfl (M _) E.heap.size 0 1 1 [Qa (some ⟨bz,0,none⟩)] rfl rfl (m _) (by simp[Value.oneCell']) (by have :=b.2.2.2.2;unfold maxLen;omega) (by have :=b.2.2.2.2;omega) (by have :=HB.o;have :=d.2.2.2.1;simp;omega) ?_)
  intro v4 w4 T ai ag ar;obtain⟨G,u,P,z,j,H,I,J⟩:=GG (i:=2) ai T ag (by have :=f.lt;have :=d.2.2.2.1;omega) f.bz;have aj:=De (cs:=[Ma none 0 0,Ma q1 n1 k1,Ma K D F,X,Ma none 0 0,Ia ka (N:Int)]) (j.trans d.2.2.2.2.2.2.2) 2 v4;have c:=(Zc (a:=⟨bw,2,none⟩) j).trans Y;have W:=(Yd (a:=⟨bw,2,none⟩) j).trans Z;have U:=f.more (y:=⟨bx,bz,v,l⟩) b.2.2.2.2 b.1 b.2.1 b.2.2.1 b.2.2.2.1 d.1 d.2.1 d.2.2.1 d.2.2.2.1 G u P z aj (H.trans d.2.2.2.2.1) (I.trans d.2.2.2.2.2.1) (J.trans d.2.2.2.2.2.2.1);have L:=Hq U;obtain⟨q2,n2,k2,rfl⟩:=T.shape;clear T ai ag ar G u P z j H I J aj U Y Z M m;go_wp2;go_ret;exact⟨rfl,_,_,L.1,rfl,rfl,L.2,λp hp=>(Yc.1 hp).imp id λh=>by rw[Y8.1 h]⟩
 .have i1:¬(s:Int)<5:=by omega
  have L:Hid (WM B S w bw ⟨Ma V s O,Ma K D F,X,es,N⟩ ps/\yd B (Nv bw ⟨Ma V s O,Ma K D F,X,es,N⟩) S S w w):=⟨h,(Fr.refl h.wa).x _⟩;clear h hp hfx hyb hye C ak al f1 f2;go_enter func10,ntmps10;go_wp2;go_ret;exact⟨rfl,_,ps,L.1,rfl,rfl,L.2,λp hp=>.inl hp⟩
theorem cP(c:Int)(h1: -9223372036854775808<=c)(h2:c<9223372036854775808)(h0:c<0):wrap64 (-wrap64 (c+1))= -(c+1):=by unfold wrap64;omega
theorem sH(c:Int)(n:Nat)(h:0<=c)(hn:0<n):∃k:Nat,k<n/\c.tmod (n:Int)=(k:Int):=by
 refine⟨(c% (n:Int)).toNat,?_,?_⟩;.have :=Int.emod_lt_of_pos c (show(0:Int)<n by omega);have :=Int.emod_nonneg c (show(n:Int)≠0 by omega);omega
 .rw[Xq h];have :=Int.emod_nonneg c (show(n:Int)≠0 by omega);omega
theorem fL(c:Int)(n:Nat)(w:Fa)(h1: -9223372036854775808<=c)(h2:c<9223372036854775808)(hn:0<n):Calls oa 15 #[Ia ka c,Ia ka (n:Int)] w λe w'=>(∃k:Nat,k<n/\e=na (Ia ka (k:Int)))/\w'=w:=by
 have h:¬n=0:=by omega
 by_cases d:c<0;.have e:=cP c h1 h2 d;obtain⟨k,a,f⟩:=sH (-(c+1)) n (by omega) hn;have b:=Hq a;clear h1 h2 hn a;go_enter func15,ntmps15;go_wp2;go_ret;exact⟨⟨k,b.o,rfl⟩,rfl⟩
 .obtain⟨k,a,f⟩:=sH c n (by omega) hn;have b:=Hq a;have g:(0:Int)<=c:=by omega
  clear h1 h2 hn a d;go_enter func15,ntmps15;go_wp2;go_ret;exact⟨⟨k,b.o,rfl⟩,rfl⟩
def Lm(N:Nat)(q:Bs)(ps:List Pq):Prop:=(∀p∈ps,p.l.length<=N)/\q.n<=N/\q.es.length<=N
theorem Lm.mono{M:Nat}(h:Lm N q ps)(hm:N<=M):Lm M q ps:=⟨λp hp=>Z2 (h.1 p hp) hm,Z2 h.2.1 hm,Z2 h.2.2 hm⟩
def ue(B bw N:Nat)(w w':Fa):Prop:=Below B w w'/\∃S q ps,WM B S w' bw q ps/\Lm (N+1) q ps
theorem MC:(oa.info? 50).map (·.size)=some 160:=by kernel_rfl
theorem Pr.fresh{B:Nat}{S:Bb}{w w1:Fa}{bx:Nat}(hf:ua B S w1)(ht:Ib S w1 bx .no)(hb:Ba w w1)(hB:B<=w.heap.size)(hbx:w.heap.size<=bx):Pr B S (w1.alloc (ma #[Ma none 0 0] 59)) bx w1.heap.size (Ma none 0 0) []:=by
 have c:Ba w1 (w1.alloc (ma #[Ma none 0 0] 59)):=(Zb _ _).alloc (Za _) _;have d:=ht.lt;have e:=hb.size;refine⟨⟨.no,ht.frame (Fr.xa hf c),trivial,λs _=>rfl⟩,⟨Z6,Od.nil _ _⟩,hf.fresh (Za _),λg b=>?_,⟨λy a=>(by cases a),λy a=>(by cases a),by simp⟩,λy a=>(by cases a),by omega,λg b=>?_,⟨by omega,by omega⟩⟩;.simp[Value.ownBlock]at b
 .simp[Value.ownBlock]at b
variable{Cs:Array Value}
theorem KD(h:WM B S w bw q ps)(hN:Lm N q ps)(hk:Cs[0]? =some (Ia ka 11)):Calls oa 5 #[Qa (some ⟨bw,0,none⟩),Sa Cs] w λe w'=>e=na (Oa true)/\ue B bw N w w':=by
 obtain⟨W0,i⟩:=nm (w.alloc (ma Cs 50));have j:Ba w W0:=by rw[<-i];exact(Zb _ _).alloc (Za _) _
 have M:W0.cell? ⟨w.heap.size,0,none⟩=some (Ia ka 11):=by rw[<-i,Ze];exact hk
 have C:=h.behind j;have E:=Hq (MT C.wa);have a:Hid (WM B S w bw q ps/\WM B S W0 bw q ps/\Ba w W0/\Lm N q ps):=⟨h,C,j,hN⟩;clear h hN hk C j;go_enter func5,ntmps5;go_wp2_with fail
 refine E.mono ?_;rintro e w1 ⟨rfl,v,o,x⟩;have m:Ba W0 w1:=by rw[x];exact(Zb _ _).alloc (Za _) _
 have z:Hid (Ib S w1 W0.heap.size .no/\Ba W0 w1/\ua B S w1):=⟨v,m,o.wa⟩;clear v o x m i M;go_wp2_with fail
 have b:Ba w w1:=a.2.2.1.trans (z.2.1.mono a.2.2.1.size);have n:Ba w1 (w1.alloc (ma #[Ma none 0 0] 59)):=(Zb _ _).alloc (Za _) _;have d:Ba w (w1.alloc (ma #[Ma none 0 0] 59)):=b.trans (n.mono b.size);have u:=a.2.2.1.size;have H:=b.size;have f:∀g,(Pq.mk W0.heap.size w1.heap.size (Ma none 0 0) []).has g->w.heap.size<=g:=λg c=>by
  rcases c with rfl|rfl|c;.exact u
  .exact H
  .simp[Value.ownBlock]at c
 have s:=Pr.fresh z.2.2 z.1 b a.1.wa.le u;refine(WR (a.1.behind d) s (λp D g c l=>by have :=(a.1.qi p D).lt c;have :=f g l;omega) (λg l K=>by have :=(a.1.ln K).2;have :=f g l;omega) λe L g c l=>by have :=((a.1.Cq e L).1.ap g c).1;have :=f g l;omega).mono ?_;rintro e P ⟨rfl,O,I,y,G,F,r,t⟩;have J:Hid (ue B bw N w P):=⟨(d.mono a.1.wa.le).trans (r.below (a.1.behind d).wa λk hk=>(a.1.ln hk).1),S,O,I,y,λp D=>(t p D).elim (λh=>by have :=a.2.2.2.1 p h;omega) λh=>by rw[h];simp,by rw[G];have :=a.2.2.2.2.1;omega,by rw[F];have :=a.2.2.2.2.2;omega⟩;clear y r t s f d n b;go_wp2;go_ret;exact⟨rfl,J.o⟩
variable{kd:Int}
theorem IH(h1:12<=kd)(h2:kd<=20)(h3:kd≠18)(h4:kd≠20):(¬kd<1/\¬24<kd/\¬kd<=4/\¬kd<=10)/\(kd==11)=false/\(kd==18)=false/\(kd==20)=false/\(kd==23)=false/\(kd==24)=false:=by refine⟨by omega,?_,?_,?_,?_,?_⟩<;>rw[Xe]<;>omega
theorem LH(h:WM B S w bw q [])(hN:Lm N q [])(hk:Cs[0]? =some (Ia ka kd))(h1:12<=kd)(h2:kd<=20)(h3:kd≠18)(h4:kd≠20):Calls oa 5 #[Qa (some ⟨bw,0,none⟩),Sa Cs] w λe w'=>e=na (Oa true)/\ue B bw N w w':=by
 obtain⟨W0,d⟩:=nm (w.alloc (ma Cs 50));have b:Ba w W0:=by rw[<-d];exact(Zb _ _).alloc (Za _) _
 have x:W0.cell? ⟨w.heap.size,0,none⟩=some (Ia ka kd):=by rw[<-d,Ze];exact hk
 have a:=h.behind b;have j:=a.cells.1.1;obtain⟨y,k,l,c⟩:=a.ox.shape;rw[c]at j;have g:k=0:=by have f:=a.ox;rw[c]at f;exact f.kh.len
 subst g;obtain⟨⟨s,t,u,v⟩,m,n,o,p,r⟩:=IH h1 h2 h3 h4;have i:Hid (ue B bw N w W0):=⟨b.mono h.wa.le,S,q,[],a,hN.mono (by omega)⟩;clear h hk h1 h2 a b c h3 h4 hN;go_enter func5,ntmps5;go_wp2;go_ret;exact⟨rfl,i.o⟩
theorem eI{a:Int}{R:Fa->Prop}(h:WM B S w bw q ps)(hs:Cs.size=160)(hk:Cs[0]? =some (Ia ka kd))(ha:Cs[1]? =some (Ia ka a))(h1:12<=kd)(h2:kd<=20)(h3:kd≠18)(h4:kd≠20)(a1: -9223372036854775808<=a)(a2:a<9223372036854775808)(h0:0<ps.length)(hcall:∀W k (hk:k<ps.length),Ba w W->WM B S W bw q ps->(kd<=15/\Calls oa 16 #[Sa Cs,Qa (some ⟨ps[k].bx,0,none⟩),Qa (some ⟨ps[k].bz,0,none⟩)] W λe w'=>e=na (Oa true)/\R w')\/(kd=19/\Calls oa 17 #[Qa (some ⟨ps[k].bz,0,none⟩),Sa Cs] W λe w'=>e=na (Oa true)/\R w')\/(¬kd<=15/\kd≠19/\Calls oa 20 #[Qa (some ⟨bw,0,none⟩),Sa Cs,Qa (some ⟨ps[k].bx,0,none⟩),Qa (some ⟨ps[k].bz,0,none⟩)] W λe w'=>e=na (Oa true)/\R w')):Calls oa 5 #[Qa (some ⟨bw,0,none⟩),Sa Cs] w λe w'=>e=na (Oa true)/\R w':=by
 obtain⟨W0,g⟩:=nm (w.alloc (ma Cs 50));have y:Ba w W0:=by rw[<-g];exact(Zb _ _).alloc (Za _) _
 have V:W0.cell? ⟨w.heap.size,0,none⟩=some (Ia ka kd):=by rw[<-g,Ze];exact hk
 have L:W0.cell? ⟨w.heap.size,1,none⟩=some (Ia ka a):=by rw[<-g,Ze];exact ha
 have z:W0.rangeAt w.heap.size 0 Cs.toList:=λj u hu=>by rw[<-g,Zf,Ze];simpa using hu
 have M:(oa.info? 50).map (·.size)=some Cs.toList.length:=by rw[MC];simp[hs]
 have l:=h.behind y;have s:=l.cells.1.1;have I:=l.cells.1.2;obtain⟨x,n,F,-,-,-,-,-,D⟩:=l.ox.full h0;obtain⟨K,J,G,-,-,-,-,-,E⟩:=l.oz.full h0;rw[F]at s;rw[G]at I;obtain⟨⟨i1,i2,i3,i4⟩,ai,aj,al,am,ao⟩:=IH h1 h2 h3 h4;have n0:(((ps.length:Nat):Int)==0)=false:=by rw[Xe];omega
 have O:=Hq (λW=>fL a ps.length W a1 a2 h0);have C:=Hq (A4 h y D E);have N:=Hq hcall;clear h hs hk ha h1 h2 h3 h4 a1 a2 h0 hcall y l D E F G;go_enter func5,ntmps5;go_upto_region 17 with fail
 go_region_held3 (λw'=>w'.cell? ⟨w.heap.size,1,none⟩=some (Ia ka a)/\w'.cell? ⟨bw,1,none⟩=some (Ma (some ⟨x,0,none⟩) ps.length n)) (first|exact⟨L,s⟩|exact X) (first| (go_at_call 15;refine(O _).mono ?_;rintro e Y ⟨⟨k,c,rfl⟩,H⟩;have X:Y.cell? ⟨w.heap.size,1,none⟩=some (Ia ka a)/\Y.cell? ⟨bw,1,none⟩=some (Ma (some ⟨x,0,none⟩) ps.length n):=by(rw[H];exact⟨L,s⟩)))
 have P:W0.cell? ⟨x,k,none⟩=some (Qa (some ⟨(ps[k]'c).bx,0,none⟩)):=by have :=C.2.2.1 k _ (by rw[Yt,Zk c];rfl);rwa [Zf]at this
 have T:W0.cell? ⟨K,k,none⟩=some (Qa (some ⟨(ps[k]'c).bz,0,none⟩)):=by have :=C.2.2.2 k _ (by rw[Yt,Zk c];rfl);rwa [Zf]at this
 have o:=C.2.1.drew;obtain⟨m,d⟩:=nm W0.drew;have ag:m.cell? ⟨w.heap.size,0,none⟩=some (Ia ka kd):=by rw[<-d];exact V
 have ac:m.cell? ⟨bw,1,none⟩=some (Ma (some ⟨x,0,none⟩) ps.length n):=by rw[<-d];exact s
 have ae:m.cell? ⟨bw,2,none⟩=some (Ma (some ⟨K,0,none⟩) ps.length J):=by rw[<-d];exact I
 have Q:m.cell? ⟨x,k,none⟩=some (Qa (some ⟨(ps[k]'c).bx,0,none⟩)):=by rw[<-d];exact P
 have U:m.cell? ⟨K,k,none⟩=some (Qa (some ⟨(ps[k]'c).bz,0,none⟩)):=by rw[<-d];exact T
 have f:m.rangeAt w.heap.size 0 Cs.toList:=by rw[<-d];exact z
 rw[d]at o⊢;have b:=N m k c o (C.1.behind o);have ah:(k:Int)<(ps.length:Int):=by omega
 obtain⟨bx,t⟩:=nm (ps[k]'c).bx;obtain⟨bz,v⟩:=nm (ps[k]'c).bz;rw[t]at Q;rw[v]at U;rw[t,v]at b;clear P T V L s I z d H X o N t v g;rcases b with⟨i5,b⟩|⟨rfl,b⟩|⟨i5,i6,b⟩
 .have r:=Hq b;clear b;go_wp2_with (refine Zr rfl 50 _ rfl w.heap.size 0 rfl Cs.toList _ f underlying50 rfl M ?_)
  refine r.mono ?_;rintro e Z ⟨rfl,i⟩;have p:=Hq i;clear i;go_wp2;go_ret;exact⟨rfl,p.o⟩
 .have r:=Hq b;clear b;go_wp2_with (refine Zr rfl 50 _ rfl w.heap.size 0 rfl Cs.toList _ f underlying50 rfl M ?_)
  refine r.mono ?_;rintro e Z ⟨rfl,i⟩;have p:=Hq i;clear i;go_wp2;go_ret;exact⟨rfl,p.o⟩
 .have r:=Hq b;have ak:(kd==19)=false:=by rw[Xe];exact i6
  clear b;go_wp2_with (refine Zr rfl 50 _ rfl w.heap.size 0 rfl Cs.toList _ f underlying50 rfl M ?_)
  refine r.mono ?_;rintro e Z ⟨rfl,i⟩;have p:=Hq i;clear i;go_wp2;go_ret;exact⟨rfl,p.o⟩
end
section
variable{B bw N c1 c2:Nat}{S:Bb}{w:Fa}{q:Bs}{ps:List Pq}{C:Array Value}{a:Int}{K:Array Nat}{s:Da}{fl:Bool}{h ad:List Nat}{p1 p2:Option Addr}{l:List Da}
theorem BT{n2:Nat}(sent:Nat->Addr)(hE:Env w.heap.size sent w)(hTy:Ht w)(hTl:14<w.heap.size)(hw:WM B S w bw q ps)(hN:Lm N q ps)(ho:Uq C 18 a K s fl h ad p1 p2 l.length c1 n2 c2)(hr:Nf w p1 l c1)(hl:l.length<=1048576):Calls oa 5 #[Qa (some ⟨bw,0,none⟩),Sa C] w λe w'=>e=na (Oa true)/\ue B bw N w w':=by
 obtain⟨W0,c⟩:=nm (w.alloc (ma C 50));have b:Ba w W0:=by rw[<-c];exact(Zb _ _).alloc (Za _) _
 have E:W0.cell? ⟨w.heap.size,0,none⟩=some (Ia ka 18):=by rw[<-c,Ze];exact ho.k.k
 have y:W0.cell? ⟨w.heap.size,69,none⟩=some (Ma p1 l.length c1):=by rw[<-c,Ze];exact ho.t.l
 have u:W0.rangeAt w.heap.size 2 (K.toList.map Kf):=by rw[<-c];exact ho.t.key.new w _
 have r:W0.rangeAt w.heap.size 35 (h.map Kf):=by rw[<-c];exact ho.t.hash.new w _
 have j:=underlying39;have i:=underlying37;have v:=oo ho.t.uj;have x:=Mb ho.k.len
 have m:=Hq (ND sent h K l p1 c1 ((hE.below b).raise b.size) ((b.cell (p:=⟨14,0,none⟩) hTl).trans hTy) (Zm hTl b.size) ho.t.uj ho.t.Bm ho.k.len ho.k.bytes (Sh hr b) hl);have d:=Hq (A3 hw hN b);obtain⟨n,o⟩:=nm l.length;rw[o]at m y;clear hE hTy hTl hw hN ho hr hl b o;go_enter func5,ntmps5;go_upto_region 1 with fail
 clear c;go_wp2_with (first| (refine Zr rfl 39 _ rfl w.heap.size 35 rfl (h.map Kf) _ r j rfl v ?_)| (refine Zr rfl 37 _ rfl w.heap.size 2 rfl (K.toList.map Kf) _ u i rfl x ?_))
 refine m.mono ?_;rintro e D ⟨rfl,f⟩;have g:=d.2.2.va f;have z:Hid (ue B bw N w D):=⟨g.mono d.1.wa.le,S,q,ps,d.1.behind g,d.2.1.mono (by omega)⟩;clear f g;go_wp2;go_ret;exact⟨rfl,z.o⟩
variable{m:List Da}
theorem XL(sent:Nat->Addr)(hE:Env w.heap.size sent w)(hTy:Ht w)(hTl:14<w.heap.size)(hw:WM B S w bw q ps)(hN:Lm N q ps)(ho:Uq C 20 a K s fl h ad p1 p2 l.length c1 m.length c2)(hr:Nf w p1 l c1)(hl:l.length<=1048576)(hr2:Nf w p2 m c2)(hm:m.length<=1048576):Calls oa 5 #[Qa (some ⟨bw,0,none⟩),Sa C] w λe w'=>e=na (Oa true)/\ue B bw N w w':=by
 obtain⟨W0,c⟩:=nm (w.alloc (ma C 50));have b:Ba w W0:=by rw[<-c];exact(Zb _ _).alloc (Za _) _
 have y:W0.cell? ⟨w.heap.size,0,none⟩=some (Ia ka 20):=by rw[<-c,Ze];exact ho.k.k
 have i:W0.rangeAt w.heap.size 0 C.toList:=λj u r=>by rw[<-c,Zf,Ze];simpa using r
 have x:(oa.info? 50).map (·.size)=some C.toList.length:=by rw[MC];simp[ho.k.size]
 have o:=Hq (zS sent h ad K.toList l m p1 p2 c1 c2 ((hE.below b).raise b.size) ((b.cell (p:=⟨14,0,none⟩) hTl).trans hTy) (Zm hTl b.size) ho.t (Sh hr b) (Sh hr2 b) hl hm);have d:=Hq (A3 hw hN b);clear hE hTy hTl hw hN ho hr hl b hr2 hm;go_enter func5,ntmps5;go_upto_region 1 with fail
 clear c;go_wp2_with (refine Zr rfl 50 _ rfl w.heap.size 0 rfl C.toList _ i underlying50 rfl x ?_)
 refine o.mono ?_;rintro e v ⟨rfl,f⟩;have g:=d.2.2.va f;have n:Hid (ue B bw N w v):=⟨g.mono d.1.wa.le,S,q,ps,d.1.behind g,d.2.1.mono (by omega)⟩;clear f g;go_wp2;go_ret;exact⟨rfl,n.o⟩
variable{w':Fa}
theorem ue.maps{W:Fa}{k:Nat}(hk:k<ps.length)(hb:Ba w W)(hB:B<=w.heap.size)(hw:WM B S W bw q ps)(hN:Lm N q ps){e:Ending}(hs:qc B S W ps[k].bx ps[k].bz ps[k].v ps[k].l e w'):e=na (Oa true)/\ue B bw N w w':=by
 obtain⟨h,g,r,m,d,n,f,a⟩:=hs;have o:=hN.1 _ (Zy hk);refine⟨h,(hb.mono hB).trans (a.below hw.wa λj i=>?_),g,q,_,hw.step hk a d f,λp c=>?_,Nat.le_succ_of_le hN.2.1,Nat.le_succ_of_le hN.2.2⟩
 .have b:=(hw.qi _ (Zy hk)).lo;rcases i with rfl|rfl;.exact b.1
  .exact b.2
 .rcases List.mem_or_eq_of_mem_set c with c|rfl;.have :=hN.1 p c;omega
  .show m.length<=N+1;omega
structure kf(w wr:Fa)(x:Nat):Prop where
 below:Ba w wr
 wm:∃S q ps,WM w.heap.size S wr w.heap.size q ps/\Lm x q ps
theorem kf.start(w:Fa):kf w (w.alloc (ma #[Ma none 0 0,Ma none 0 0,Ma none 0 0,Ma none 0 0,Ma none 0 0,Ia ka 0] 34)) 0:=by have c:Ba w (w.alloc (ma #[Ma none 0 0,Ma none 0 0,Ma none 0 0,Ma none 0 0,Ma none 0 0,Ia ka 0] 34)):=(Zb _ _).alloc (Za _) _;refine⟨c,λ_=>none,⟨Ma none 0 0,Ma none 0 0,Ma none 0 0,[],0⟩,[],⟨Z6,(eJ w).below c,λ_ _=>rfl,Db.nil _ _ _,Db.nil _ _ _,Db.nil _ _ _,λp a=>(by cases a),λe d=>(by cases d),λi j f=>(by simp at f),λp a=>(by cases a),by simp[Value.ownBlock],by simp[Value.ownBlock],by simp[Value.ownBlock],λg b=>(by simp[Value.ownBlock]at b),λg b=>(by simp[Value.ownBlock]at b),Za _,by simp⟩,λp a=>(by cases a),Za _,Za _⟩
theorem kf.mono{w wr:Fa}{x y:Nat}(h:kf w wr x)(hy:x<=y):kf w wr y:=by obtain⟨S,q,c,a,b⟩:=h.wm;exact⟨h.below,S,q,c,a,b.mono hy⟩
variable{wr:Fa}{x:Nat}
theorem kf.later(h:kf w wr x)(hb:Ba wr w'):kf w w' x:=by obtain⟨S,q,c,a,b⟩:=h.wm;exact⟨h.below.trans (hb.mono h.below.size),S,q,c,a.behind hb,b⟩
theorem kf.said(h:kf w wr x)(hs:ue w.heap.size w.heap.size x wr w'):kf w w' (x+1):=by obtain⟨a,S,q,d,b,c⟩:=hs;exact⟨h.below.trans a,S,q,d,b,c⟩
structure Ground(w:Fa)(sent:Nat->Addr):Prop where
 env:Env w.heap.size sent w
 ty:Ht w
 tl:14<w.heap.size
variable{sent:Nat->Addr}
theorem Ground.later(h:Ground w sent)(hb:Ba w wr):Env wr.heap.size sent wr/\Ht wr/\14<wr.heap.size:=⟨(h.env.below hb).raise hb.size,(hb.cell (p:=⟨14,0,none⟩) h.tl).trans h.ty,Zm h.tl hb.size⟩
structure U1(w:Fa)(C:Array Value)(kd a:Int)(K:Array Nat)(s:Da)(fl:Bool)(h ad:List Nat)(p1 p2:Option Addr)(l m:List Da)(c1 c2:Nat):Prop where
 op:Uq C kd a K s fl h ad p1 p2 l.length c1 m.length c2
 r1:Nf w p1 l c1
 r2:Nf w p2 m c2
 l1:l.length<=1048576
 l2:m.length<=1048576
 z1:∀x∈l,x.size<=1048576
 sz:s.size<=1048576
 lo:∀a,0<l.length->p1=some a->a.block<w.heap.size
variable{Cs:Array Value}
theorem nQ(h:kf w wr x)(hG:Ground w sent)(hs:Cs.size=160)(hk:Cs[0]? =some (Ia ka 15))(ha:Cs[1]? =some (Ia ka a))(a1: -9223372036854775808<=a)(a2:a<9223372036854775808)(hx:x<=2097151):Calls oa 5 #[Qa (some ⟨w.heap.size,0,none⟩),Sa Cs] wr λe w'=>e=na (Oa true)/\kf w w' (x+1):=by
 obtain⟨S,q,j,f,c⟩:=h.wm;by_cases l:0<j.length;.refine(eI (R:=ue w.heap.size w.heap.size x wr) f hs hk ha (by omega) (by omega) (by omega) (by omega) a1 a2 l λW k b g d=>.inl ⟨by omega,?_⟩).mono λe w' hs=>⟨hs.1,h.said hs.2⟩;have i:=d.qi _ (Zy b);exact(ZF i d.wa (by have :=c.1 _ (Zy b);omega) (hG.env.Fg.below (h.below.trans (g.mono h.below.size)) hG.env.low) hG.env.low hk).mono λe w' hs=>ue.maps b g h.below.size d c hs
 .obtain rfl:j=[]:=Ye (by omega);exact(LH f c hk (by omega) (by omega) (by omega) (by omega)).mono λe w' hs=>⟨hs.1,h.said hs.2⟩
theorem mN{kd:Int}{hh:List Nat}(h:kf w wr x)(hG:Ground w sent)(ho:U1 w Cs kd a K s fl hh ad p1 p2 l m c1 c2)(k1:11<=kd)(k2:kd<=20)(a1: -9223372036854775808<=a)(a2:a<9223372036854775808)(hx:x<=2097150):Calls oa 5 #[Qa (some ⟨w.heap.size,0,none⟩),Sa Cs] wr λe w'=>e=na (Oa true)/\kf w w' (x+1):=by
 obtain⟨S,q,g,z,d⟩:=h.wm;obtain⟨G,u,o⟩:=hG.later h.below;by_cases Q:kd=11;.subst Q;exact(KD z d ho.op.k.k).mono λe w' b=>⟨b.1,h.said b.2⟩
 by_cases E:kd=18;.subst E;exact(BT sent G u o z d ho.op (Sh ho.r1 h.below) ho.l1).mono λe w' b=>⟨b.1,h.said b.2⟩
 by_cases F:kd=20;.subst F;exact(XL sent G u o z d ho.op (Sh ho.r1 h.below) ho.l1 (Sh ho.r2 h.below) ho.l2).mono λe w' b=>⟨b.1,h.said b.2⟩
 by_cases M:0<g.length
 .refine(eI (R:=ue w.heap.size w.heap.size x wr) z ho.op.k.size ho.op.k.k ho.op.k.a (by omega) k2 E F a1 a2 M λW k O H f=>?_).mono λe w' b=>⟨b.1,h.said b.2⟩;have I:=Zy O;have c:=f.qi _ I;have C:g[k].l.length<=2097151:=by have :=d.1 _ I;omega
  have i:=h.below.va H;obtain⟨G,u,o⟩:=hG.later i;have N:=(hG.env.below i).Fg;have D:=hG.env.low;have B:=H.mono h.below.size;by_cases J:kd<=15
  .refine .inl ⟨J,?_⟩;have j:∀e w',qc w.heap.size S W g[k].bx g[k].bz g[k].v g[k].l e w'->e=na (Oa true)/\ue w.heap.size w.heap.size x wr w':=λe w' b=>ue.maps O H h.below.size f d b;by_cases T:kd=12;.subst T;exact(LU sent c f.wa (hG.env.below i).Wf C ho.op.k).mono j
   by_cases U:kd=13;.subst U;exact(QR c f.wa C ho.op.k).mono j
   by_cases V:kd=14;.subst V;exact(dP c f.wa C ho.op.k).mono j
   .obtain rfl:kd=15:=by omega
    exact(ZF c f.wa (by omega) N D ho.op.k.k).mono j
  by_cases L:kd=19;.refine .inr (.inl ⟨L,?_⟩);obtain⟨t,ht,Z,hg⟩:=c.t.ex;obtain⟨q1,q2,q3⟩:=xo ho.op.k.len ho.op.k.bytes;have Y:=OB Z c.row hg q1 q3;refine(zT sent G u o c.r (by omega) c.ok c.row ho.op ho.sz (Sh ho.r2 i) rfl (by rw[Y];exact Fy _ _)).mono λe w' b=>⟨b.1,(B.trans (b.2.mono (Z2 h.below.size H.size))),S,q,g,f.behind b.2,d.mono (by omega)⟩
  .refine .inr (.inr ⟨J,L,?_⟩);by_cases X:kd=16;.subst X;refine(JN f I N D C (by have :=d.2.1;omega) (by have :=d.2.2;omega) ho.op).mono λe w' b=>⟨b.1,B.trans b.2.1,?_⟩;obtain⟨t,y,P⟩:=b.2.2;exact⟨S,_,g,P,λp hp=>by have :=d.1 p hp;omega,by have :=d.2.1;show q.n+1<=x+1;omega,by have :=d.2.2;show(q.es++[y]).length<=x+1;rw[Zq,List.length_singleton];omega⟩
   .obtain rfl:kd=17:=by omega
    refine(eN f I N D C ho.op (Sh ho.r1 i) (λa M e=>?_) ho.l1 ho.z1).mono λe w' b=>⟨b.1,B.trans b.2.1,S,q,g,b.2.2,d.mono (by omega)⟩;cases e2:S a.block with
    |none=>rfl
    |some t=>have :=f.wa.low _ _ e2;have :=ho.lo a M e;omega
 .obtain rfl:g=[]:=Ye (by omega);exact(LH z d ho.op.k.k (by omega) k2 E F).mono λe w' b=>⟨b.1,h.said b.2⟩
theorem kf.looks{w wr:Fa}{x:Nat}(h:kf w wr x)(hx:x<=2097152):Calls oa 7 #[Qa (some ⟨w.heap.size,3,none⟩)] wr λe w'=>e=na (Oa true)/\Ba wr w':=by obtain⟨S,q,d,a,b⟩:=h.wm;exact FU _ q.es q.t wr (Ju wr _ 3 _ _ (0,0) a.heap) (Ju wr _ 4 _ _ (0,0) a.heap) a.ot (λe c=>(a.Cq e c).1) (by have :=b.2.2;omega)
theorem YD(k:Int)(w:Fa):Calls oa 6 #[Ia ka k,Ia ka 11,Ia ka 20] w λe w'=>e=na (Oa (decide (11<=k)&&decide (k<=20)))/\w'=w:=by
 go_enter func6,ntmps6;by_cases b:11<=k
 .by_cases a:k<=20;.go_wp2;go_ret;exact⟨by simp[b,a],rfl⟩
  .go_wp2;go_ret;exact⟨by simp[a],rfl⟩
 .go_wp2;go_ret;exact⟨by have c:¬11<=k:=(by omega);simp[c],rfl⟩
def E9(w:Fa)(On:Option Addr)(n:Nat):Prop:=∀i,i<n->∃sb so C kd a K s fl h ad p1 p2 l m c1 c2,On=some ⟨sb,so,none⟩/\sb<w.heap.size/\U1 w C kd a K s fl h ad p1 p2 l m c1 c2/\(-9223372036854775808<=a/\a<9223372036854775808)/\w.rangeAt sb (so+i*160) C.toList
theorem nO(On:Option Addr)(n cap:Nat)(w:Fa)(sent:Nat->Addr)(hG:Ground w sent)(hn:n<=1048576)(hS:E9 w On n):Calls oa 4 #[Ma On n cap,Ia ka 11,Ia ka 20] w λe w'=>e=na (Oa true)/\Ba w w':=by
 have o:=Hq (A3 hG hn hS);have F:=Hq (kf.start w);clear hG hn hS;go_enter func4,ntmps4;go_wp2_with fail
 generalize w.alloc (ma #[Ma none 0 0,Ma none 0 0,Ma none 0 0,Ma none 0 0,Ma none 0 0,Ia ka 0] 34)=w0 at F⊢;obtain⟨S,q,ps,j,E⟩:=F.wm;refine((KD j E (by rfl)).mono λe w' Z=>(⟨Z.1,F.said Z.2⟩:e=na (Oa true)/\kf w w' (0+1))).mono ?_;rintro e w1 ⟨rfl,L⟩;have U:=Hq L;clear L j E F;go_wp2;go_loopg [9] n (λg i wr=>∃x:Nat,x<=n/\g=n-x/\i=Ia ka (x:Int)/\kf w wr (x+1))
 case atStart=>exact⟨0,Xa _,rfl,rfl,U.o⟩
 case round=>
  obtain⟨x,hx,rfl,rfl,p⟩:=hrel;have G:=Hq p;clear p U;by_cases y:x<n
  .obtain⟨T,so,C,b,a,K,s,fl,h,ad,p1,p2,l,m,c1,c2,rfl,B,v,r,z⟩:=o.2.2 x y;have f:=lM z (G.below.block T B);have c0:wr.cell? ⟨T,so+x*160,none⟩=some (Ia ka b):=by have :=f 0 (Ia ka b) (by have :=v.op.k.k;simpa using this);rwa [V0]at this
   have R:(oa.info? 50).map (·.size)=some C.toList.length:=by rw[MC,Yh,v.op.k.size]
   have ac:(x:Int)<(n:Int):=by omega
   have J:Hid (wrap64 ((x:Int)+1)=((x+1:Nat):Int)):=by have h:wrap64 ((x:Int)+1)=((x+1:Nat):Int):=(by unfold wrap64;have :=o.2.1;omega);exact h
   by_cases c:11<=b/\b<=20
   .have H:Hid (∀W,Calls oa 6 #[Ia ka b,Ia ka 11,Ia ka 20] W λe w'=>e=na (Oa true)/\w'=W):=λW=>by have :=YD b W;simpa[c.1,c.2]using this
    have X:=Hq (mN G o.1 v c.1 c.2 r.1 r.2 (by have :=o.2.1;omega));clear v z c B r;go_wp2_with (first
     | (go_at_call 6;refine(H _).mono ?_;rintro e w' ⟨rfl,rfl⟩)
     | (refine Zr rfl 50 _ rfl T (so+x*160) rfl C.toList _ f underlying50 rfl R ?_))
    refine X.mono ?_;rintro e w2 ⟨rfl,d⟩;have O:=Hq d;have V:=Hq (d.looks (by have :=o.2.1;omega));clear d X f c0 R H;go_wp2_with fail
    refine V.mono ?_;rintro e w3 ⟨rfl,M⟩;have H3:=Hq (O.later M);clear V M;go_wp2;go_roundg (n-(x+1))
    case measure=>omega
    case rel=>exact⟨x+1,by omega,rfl,by first|exact ld J.o|exact ld rfl,H3.o⟩
   .have H:Hid (∀W,Calls oa 6 #[Ia ka b,Ia ka 11,Ia ka 20] W λe w'=>e=na (Oa false)/\w'=W):=λW=>by
     have :=YD b W;have e:(decide (11<=b)&&decide (b<=20))=false:=by
      by_cases Y:11<=b;.have P:¬b<=20:=λh=>c ⟨Y,h⟩;simp[P]
      .simp[Y]
     rw[e]at this;exact this
    clear v z c B r R f;go_wp2_with (go_at_call 6;refine(H _).mono ?_;rintro e w' ⟨rfl,rfl⟩)
    go_roundg (n-(x+1))
    case measure=>omega
    case rel=>exact⟨x+1,by omega,rfl,by first|exact ld J.o|exact ld rfl,G.mono (by omega)⟩
  .have ae:¬(x:Int)<(n:Int):=by omega
   have HX:Hid (x<=1048576):=by have h:=o.2.1;have P:x<=1048576:=(by omega);exact P
   clear y;go_wp2;go_loopg [12] 6 (λg i W=>∃k:Nat,k<=6/\g=6-k/\i=Ia ka (k:Int)/\kf w W (x+1+k))
   case atStart=>exact⟨0,by omega,rfl,rfl,G.o⟩
   case round=>
    obtain⟨k,hk,rfl,rfl,p⟩:=hrel;obtain⟨S,q,ps,j,E⟩:=p.wm;obtain⟨p1,t,c1,D⟩:=j.ox.shape;have d1:=j.cells.1.1;rw[D]at d1;have N:t=ps.length:=by have Q:=j.ox;rw[D]at Q;exact Q.kh.len
    clear D;have u:Hid (t<=5):=by have Q:=j.CA;have h:t<=5:=(by omega);exact h
    have I:=Hq p;by_cases y:k<t
    .have i1:(k:Int)<(t:Int):=by omega
     clear j E p N;go_wp2_with fail
     refine(nQ (a:=(k:Int)) I o.1 (by rfl) (by rfl) (by rfl) (by omega) (by omega) (by have :=HX.o;omega)).mono ?_;rintro e w2 ⟨rfl,d⟩;have O:=Hq d;clear d;go_wp2;go_roundg (6-(k+1))
     case measure=>have :=u.o;omega
     case rel=>exact⟨k+1,by have :=u.o;omega,rfl,by first|exact ld rfl|go_num,O.o⟩
    .have i1:(t:Int)<=(k:Int):=by omega
     clear j E p N;go_wp2;go_ret;exact⟨rfl,I.below⟩
end
end Go.Proofs.YtpfbdlnibdfcoaaGreatDoor
