import Derived.Test.YtpfbdlnibdfcoaaGreatDoorPvAccH
namespace Go.Proofs.YtpfbdlnibdfcoaaGreatDoor
open Go.RowKit Tryz
open Value renaming int->Ia,string->La,slice->Ma,bool->Oa,pointer->Qa,agg->Sa,tuple->Wa,iface->ca,nilIface->da
open IntKind renaming i64->ka
open Obj renaming cells->ma
open Ending renaming returned->na
open Tryz renaming prog->oa
set_option maxRecDepth 100000
set_option maxHeartbeats 0
section
abbrev Nl:List Nat:=[0,0,0,0,0,0,0,0,0,0,0,0,0,0,0,0,0,0,0,0,0,0,0,0,0,0,0,0,0,0,0,0]
abbrev Kk:Acc:=⟨0,0,Nl,Nl⟩
theorem qh:(oa.info? 46).map (·.size)=some 66:=by kernel_rfl
theorem Lo{a:Acc}(h:a.root.length=32)(h2:a.code.length=32):(Ku a).length=66:=by unfold Ku;simp[h,h2]
theorem qk(a:Acc):(Ku a).toArray.all (·.oneCell')=true:=by refine Yp (λu b=>?_);unfold Ku at b;simp only[Yf,Yc,Xd]at b;rcases b with rfl|rfl|⟨_,_,rfl⟩|⟨_,_,rfl⟩<;>rfl
structure Lg(w:Fa)(g:Nat)(e0 e1 e2 e3:El):Prop where
 lt:g<w.heap.size
 row:w.rangeAt g 0 (Nj e0++Nj e1++Nj e2++Nj e3)
theorem NJ(fr en:Nat)(l:Bool)(tx:Da)(p:Option Addr)(m c:Nat)(e1 e2 e3:El)(g cap:Nat)(sent:Nat->Addr)(w:Fa)(hF:Qb w sent)(hr:Lg w g ⟨fr,en,l,tx,Ma p m c⟩ e1 e2 e3)(h:¬G2 l (Ke tx)):Calls oa 138 #[Ma (some ⟨g,0,none⟩) 4 cap] w λe w'=>Ba w w'/\e=na (Wa #[Sa (Ku Kk).toArray,Aq fr sent]):=by
 have q:=hr.row 0 _ rfl;have r:=hr.row 1 _ rfl;have s:=hr.row 2 _ rfl;have t:=hr.row 3 _ rfl;have u:=hr.row 4 _ rfl;have x:=hr.lt;have o:¬g=w.heap.size:=by omega
 have k:Hid (∀W,Ba w W->Calls oa 176 #[G1 fr en l tx p m c] W λe w'=>Ba W w'/\e=na (Wa #[Ia .u64 0,Aq fr sent])):=λW b=>mD fr en l tx p m c sent W (hF.below b) h;clear hF hr h;go_enter func138,ntmps138;go_wp2_with fail
 generalize hWW:World.alloc w _=W;have b:Ba w W:=by rw[<-hWW];exact(Zb _ _).alloc (Za _) _
 have f:W.there w.heap.size 0 66:=by rw[<-hWW];exact Le _ _ _ _ rfl
 have d:w.heap.size<W.heap.size:=by rw[<-hWW];simp
 clear hWW;refine(k _ b).mono ?_;rintro e y ⟨a,rfl⟩;have j:=ve f (a.block _ d);have A:=Hq (A2 (Below.behind b a) (ve f (a.block _ d)));have n:=qh;have i:=qk Kk;clear b a f d;go_wp2_with (refine Zs rfl 46 _ _ rfl w.heap.size 0 (Ku Kk).toArray rfl rfl j n i ?_)
 refine Zv (v:=Wa #[Sa (Ku Kk).toArray,Aq fr sent]) (Ol results138 _ _ _ w.heap.size 0 rfl (Yg _ _ _ 46 _ _ (Zn _ _ _ (Ku Kk) A.2) underlying46 rfl qh)) rfl ⟨Cg A.1 (Za _) _ _,rfl⟩
variable{w:Fa}
theorem Lg.cells{g:Nat}{e0 e1 e2 e3:El}(h:Lg w g e0 e1 e2 e3){W:Fa}(hb:Ba w W):W.rangeAt g 0 (Nj e0)/\W.rangeAt g 5 (Nj e1)/\W.rangeAt g 10 (Nj e2)/\W.rangeAt g 15 (Nj e3)/\g<W.heap.size:=by
 have a:W.rangeAt g 0 (Nj e0++Nj e1++Nj e2++Nj e3):=λj u c=>(hb.cell (p:=⟨g,0+j,none⟩) h.lt).trans (h.row j u c);refine⟨λj u c=>?_,?_,?_,?_,Zm h.lt hb.size⟩;.have :=xr (xs:=[]) (bs:=Nj e0) (cs:=Nj e1++Nj e2++Nj e3) (w:=W) (b:=g) (o:=0) (by simpa using a);exact this j u c
 .have :=xr (xs:=Nj e0) (bs:=Nj e1) (cs:=Nj e2++Nj e3) (w:=W) (b:=g) (o:=0) (by simpa using a);exact this
 .have :=xr (xs:=Nj e0++Nj e1) (bs:=Nj e2) (cs:=Nj e3) (w:=W) (b:=g) (o:=0) (by simpa using a);exact this
 .have :=xr (xs:=Nj e0++Nj e1++Nj e2) (bs:=Nj e3) (cs:=[]) (w:=W) (b:=g) (o:=0) (by simpa using a);exact this
theorem kl{w2 W:Fa}(hW:Ba w W)(hth:W.there w.heap.size 0 66)(hsz:w.heap.size<W.heap.size)(hb2:Ba W w2):w2.there w.heap.size 0 (Ku Kk).toArray.size/\Ba w w2/\w2.there w.heap.size 0 (Ku Kk).length:=⟨ve hth (hb2.block _ hsz),Below.behind hW hb2,ve hth (hb2.block _ hsz)⟩
variable{w3:Fa}{L:List Value}
theorem ug{wE:Fa}{o:Obj}(h:(w3.alloc o).setCells w3.heap.size 0 L=wE):Ba w3 wE:=by rw[<-h];exact Cg ((Zb _ _).alloc (Za _) _) (Za _) _ _
theorem Lt{wE:Fa}{C:Array Value}{t:TypeId}(h:(w3.alloc (ma C t)).setCells w3.heap.size 0 L=wE)(hC:L.length=C.size):wE.rangeAt w3.heap.size 0 L/\w3.heap.size<wE.heap.size:=by rw[<-h];obtain⟨a,_⟩:=Og w3.heap.size L 0 (w3.alloc (ma C t));exact⟨Zn _ _ _ _ (Le _ _ _ _ hC),by rw[a];simp⟩
theorem sP(f0 n0 f1 n1 f2 n2 f3 n3:Nat)(l1 l2 l3:Bool)(x0 x1 x2 x3:Da)(p0 p1 p2 p3:Option Addr)(m0 c0 m1 c1 m2 c2 m3 c3:Nat)(g cap:Nat)(sent:Nat->Addr)(w:Fa)(hF:Qb w sent)(hr:Lg w g ⟨f0,n0,false,x0,Ma p0 m0 c0⟩ ⟨f1,n1,l1,x1,Ma p1 m1 c1⟩ ⟨f2,n2,l2,x2,Ma p2 m2 c2⟩ ⟨f3,n3,l3,x3,Ma p3 m3 c3⟩)(k0:G2 false (Ke x0))(kb:¬G2 l1 (Ke x1)):Calls oa 138 #[Ma (some ⟨g,0,none⟩) 4 cap] w λe w'=>Ba w w'/\e=na (Wa #[Sa (Ku Kk).toArray,Aq f1 sent]):=by
 have u:=Hq hF;have i:=Hq (λW x=>hr.cells (W:=W) x);clear hF hr;have q:=(i w (Zb _ _)).1;have j:=q 0 _ rfl;have k:=q 1 _ rfl;have l:=q 2 _ rfl;have m:=q 3 _ rfl;have n:=q 4 _ rfl;clear q;have y:=(i w (Zb _ _)).2.2.2.2;have r:¬g=w.heap.size:=by omega
 go_enter func138,ntmps138;go_wp2_with fail
 generalize hWW:World.alloc w _=W;have a:Hid (Ba w W/\W.there w.heap.size 0 66/\w.heap.size<W.heap.size):=⟨by rw[<-hWW];exact(Zb _ _).alloc (Za _) _,by rw[<-hWW];exact Le _ _ _ _ rfl,by rw[<-hWW];simp⟩;clear hWW j k l m n y r;refine(Sq f0 n0 x0 p0 m0 c0 _ k0).mono ?_;rintro e z ⟨b,rfl⟩;have d:=Hq (A2 (Below.behind a.1 b) b);obtain⟨B,h⟩:=nm (Nk (Ke x0));rw[h];clear b k0 h;have q:=(i z d.1).2.1;have j:=q 0 _ rfl;have k:=q 1 _ rfl;have l:=q 2 _ rfl;have m:=q 3 _ rfl;have n:=q 4 _ rfl;clear q;go_wp2_with fail
 clear j k l m n;refine(mD f1 n1 l1 x1 p1 m1 c1 sent _ (u.below d.1) kb).mono ?_;rintro e t ⟨c,rfl⟩;have p:Aside (Ba w t/\t.there w.heap.size 0 (Ku Kk).length):=(kl a.1 a.2.1 a.2.2 (Below.behind d.2 c)).2;have o:=(kl a.1 a.2.1 a.2.2 (Below.behind d.2 c)).1;have s:=qh;have f:=qk Kk;clear c kb;go_wp2_with (refine Zs rfl 46 _ _ rfl w.heap.size 0 (Ku Kk).toArray rfl rfl o s f ?_)
 refine Zv (v:=Wa #[Sa (Ku Kk).toArray,Aq f1 sent]) (Ol results138 _ _ _ w.heap.size 0 rfl (Yg _ _ _ 46 _ _ (Zn _ _ _ (Ku Kk) p.2) underlying46 rfl qh)) rfl ⟨Cg p.1 (Za _) _ _,rfl⟩
theorem cQ(f0 n0 f1 n1 f2 n2 f3 n3:Nat)(l2 l3:Bool)(x0 x1 x2 x3:Da)(p0 p1 p2 p3:Option Addr)(m0 c0 m1 c1 m2 c2 m3 c3:Nat)(g cap:Nat)(sent:Nat->Addr)(w:Fa)(hF:Qb w sent)(hr:Lg w g ⟨f0,n0,false,x0,Ma p0 m0 c0⟩ ⟨f1,n1,false,x1,Ma p1 m1 c1⟩ ⟨f2,n2,l2,x2,Ma p2 m2 c2⟩ ⟨f3,n3,l3,x3,Ma p3 m3 c3⟩)(k0:G2 false (Ke x0))(k1:G2 false (Ke x1))(kb:¬(l2=false/\x2.size=32)):Calls oa 138 #[Ma (some ⟨g,0,none⟩) 4 cap] w λe w'=>Ba w w'/\e=na (Wa #[Sa (Ku Kk).toArray,Aq f2 sent]):=by
 have H:=Hq hF;have m:=Hq (λW n=>hr.cells (W:=W) n);clear hF hr;have q:=(m w (Zb _ _)).1;have b:=q 0 _ rfl;have c:=q 1 _ rfl;have d:=q 2 _ rfl;have f:=q 3 _ rfl;have h:=q 4 _ rfl;clear q;have J:=(m w (Zb _ _)).2.2.2.2;have F:¬g=w.heap.size:=by omega
 go_enter func138,ntmps138;go_wp2_with fail
 generalize hWW:World.alloc w _=W;have a:Hid (Ba w W/\W.there w.heap.size 0 66/\w.heap.size<W.heap.size):=⟨by rw[<-hWW];exact(Zb _ _).alloc (Za _) _,by rw[<-hWW];exact Le _ _ _ _ rfl,by rw[<-hWW];simp⟩;clear hWW b c d f h J F;refine(Sq f0 n0 x0 p0 m0 c0 _ k0).mono ?_;rintro e K ⟨i,rfl⟩;have t:=Hq (A2 (Below.behind a.1 i) i);obtain⟨M,r⟩:=nm (Nk (Ke x0));rw[r];clear i k0 r;have q:=(m K t.1).2.1;have b:=q 0 _ rfl;have c:=q 1 _ rfl;have d:=q 2 _ rfl;have f:=q 3 _ rfl;have h:=q 4 _ rfl;clear q;go_wp2_with fail
 clear b c d f h;refine(Sq f1 n1 x1 p1 m1 c1 _ k1).mono ?_;rintro e L ⟨j,rfl⟩;have u:=Hq (A2 (Below.behind t.1 j) (Below.behind t.2 j));obtain⟨N,s⟩:=nm (Nk (Ke x1));rw[s];clear j k1 s;have q:=(m L u.1).2.2.1;have b:=q 0 _ rfl;have c:=q 1 _ rfl;have d:=q 2 _ rfl;have f:=q 3 _ rfl;have h:=q 4 _ rfl;clear q;go_wp2_with fail
 clear b c d f h;refine(jH f2 n2 l2 x2 p2 m2 c2 sent _ (H.below u.1) kb).mono ?_;rintro e l ⟨n,rfl⟩;obtain⟨Z,B,p,D⟩:∃Z:Array Value,We=Z/\Z.size=32/\Z.all (·.oneCell')=true:=⟨_,rfl,by rw[Bp];rfl,ow⟩;rw[B];have z:Aside (Ba W l):=Below.behind u.2 n;have E:(oa.info? 39).map (·.size)=some Z.size:=by rw[Ck,p]
 have k:∀C:Array Value,32=C.size->(l.alloc (ma C 39)).there l.heap.size 0 Z.size:=λC I=>Le _ _ _ _ (by rw[p];exact I);clear n kb B;have G:=qh;have o:=qk Kk;go_wp2_with (first| (refine Zs rfl 39 _ _ rfl l.heap.size 0 Z rfl rfl (k _ rfl) E D ?_;generalize hX:World.setCells _ l.heap.size 0 _=wE;have y:Aside (Ba w wE/\wE.there w.heap.size 0 (Ku Kk).length):=(kl a.1 a.2.1 a.2.2 (Below.behind z (ug hX))).2;have x:=(kl a.1 a.2.1 a.2.2 (Below.behind z (ug hX))).1;clear hX k)| (refine Zs rfl 46 _ _ rfl w.heap.size 0 (Ku Kk).toArray rfl rfl x G o ?_))
 refine Zv (v:=Wa #[Sa (Ku Kk).toArray,Aq f2 sent]) (Ol results138 _ _ _ w.heap.size 0 rfl (Yg _ _ _ 46 _ _ (Zn _ _ _ (Ku Kk) y.2) underlying46 rfl qh)) rfl ⟨Cg y.1 (Za _) _ _,rfl⟩
theorem YL(f0 n0 f1 n1 f2 n2 f3 n3:Nat)(l3:Bool)(x0 x1 x2 x3:Da)(p0 p1 p2 p3:Option Addr)(m0 c0 m1 c1 m2 c2 m3 c3:Nat)(g cap:Nat)(sent:Nat->Addr)(w:Fa)(hF:Qb w sent)(hr:Lg w g ⟨f0,n0,false,x0,Ma p0 m0 c0⟩ ⟨f1,n1,false,x1,Ma p1 m1 c1⟩ ⟨f2,n2,false,x2,Ma p2 m2 c2⟩ ⟨f3,n3,l3,x3,Ma p3 m3 c3⟩)(k0:G2 false (Ke x0))(k1:G2 false (Ke x1))(k2:x2.size=32)(kb:¬(l3=false/\x3.size=32)):Calls oa 138 #[Ma (some ⟨g,0,none⟩) 4 cap] w λe w'=>Ba w w'/\e=na (Wa #[Sa (Ku Kk).toArray,Aq f3 sent]):=by
 have S:=Hq hF;have m:=Hq (λW a=>hr.cells (W:=W) a);clear hF hr;have q:=(m w (Zb _ _)).1;have c:=q 0 _ rfl;have d:=q 1 _ rfl;have f:=q 2 _ rfl;have h:=q 3 _ rfl;have i:=q 4 _ rfl;clear q;have T:=(m w (Zb _ _)).2.2.2.2;have Q:¬g=w.heap.size:=by omega
 go_enter func138,ntmps138;go_wp2_with fail
 generalize hWW:World.alloc w _=W;have b:Hid (Ba w W/\W.there w.heap.size 0 66/\w.heap.size<W.heap.size):=⟨by rw[<-hWW];exact(Zb _ _).alloc (Za _) _,by rw[<-hWW];exact Le _ _ _ _ rfl,by rw[<-hWW];simp⟩;clear hWW c d f h i T Q;refine(Sq f0 n0 x0 p0 m0 c0 _ k0).mono ?_;rintro e U ⟨r,rfl⟩;have E:=Hq (A2 (Below.behind b.1 r) r);obtain⟨v0,z⟩:=nm (Nk (Ke x0));rw[z];clear r k0 z;have q:=(m U E.1).2.1;have c:=q 0 _ rfl;have d:=q 1 _ rfl;have f:=q 2 _ rfl;have h:=q 3 _ rfl;have i:=q 4 _ rfl;clear q;go_wp2_with fail
 clear c d f h i;refine(Sq f1 n1 x1 p1 m1 c1 _ k1).mono ?_;rintro e V ⟨s,rfl⟩;have F:=Hq (A2 (Below.behind E.1 s) (Below.behind E.2 s));obtain⟨v1,B⟩:=nm (Nk (Ke x1));rw[B];clear s k1 B;have q:=(m V F.1).2.2.1;have c:=q 0 _ rfl;have d:=q 1 _ rfl;have f:=q 2 _ rfl;have h:=q 3 _ rfl;have i:=q 4 _ rfl;clear q;go_wp2_with fail
 clear c d f h i;refine(vC f2 n2 x2 p2 m2 c2 _ k2).mono ?_;rintro e u2 ⟨a,rfl⟩;obtain⟨l,o,j,H⟩:∃D:Array Value,((Ke x2).map Kf).toArray=D/\D.size=32/\D.all (·.oneCell')=true:=⟨_,rfl,by rw[Ym,Zl,ta,k2],Yp (Mo (Ke x2))⟩;rw[o];have X:=Hq o;have M:=Hq (A2 (Below.behind F.1 a) (Below.behind F.2 a));have I:(oa.info? 39).map (·.size)=some l.size:=by rw[Ck,j]
 have k:∀C:Array Value,32=C.size->(u2.alloc (ma C 39)).there u2.heap.size 0 l.size:=λC n=>Le _ _ _ _ (by rw[j];exact n);have p:∀C:Array Value,32=C.size->l.toList.length=C.size:=λC n=>by rw[Yh,j];exact n
 clear a k2 o;go_wp2_with (refine Zs rfl 39 _ _ rfl u2.heap.size 0 l rfl rfl (k _ rfl) I H ?_;generalize hX:World.setCells _ u2.heap.size 0 _=w3;have G:Aside (Ba w w3/\Ba W w3):=⟨Below.behind M.1 (ug hX),Below.behind M.2 (ug hX)⟩;have Y:Aside (w3.rangeAt u2.heap.size 0 l.toList/\u2.heap.size<w3.heap.size):=Lt hX (p _ rfl);have q:=(m w3 G.1).2.2.2.1;have c:w3.cell? ⟨g,15,none⟩=some (Ia ka (f3:Int)):=q 0 _ rfl;have d:w3.cell? ⟨g,16,none⟩=some (Ia ka (n3:Int)):=q 1 _ rfl;have f:w3.cell? ⟨g,17,none⟩=some (Oa l3):=q 2 _ rfl;have h:w3.cell? ⟨g,18,none⟩=some (La x3):=q 3 _ rfl;have i:w3.cell? ⟨g,19,none⟩=some (Ma p3 m3 c3):=q 4 _ rfl;clear q hX k p)
 clear c d f h i;refine(jH f3 n3 l3 x3 p3 m3 c3 sent _ (S.below G.1) kb).mono ?_;rintro e u ⟨a,rfl⟩;obtain⟨Z,N,y,O⟩:∃Z:Array Value,We=Z/\Z.size=32/\Z.all (·.oneCell')=true:=⟨_,rfl,by rw[Bp];rfl,ow⟩;rw[N];have L:Aside (Ba W u):=Below.behind G.2 a;have P:(oa.info? 39).map (·.size)=some Z.size:=by rw[Ck,y]
 have t:∀C:Array Value,32=C.size->(u.alloc (ma C 39)).there u.heap.size 0 Z.size:=λC n=>Le _ _ _ _ (by rw[y];exact n);clear a kb N;have R:=qh;have x:=qk Kk;go_wp2_with (first| (refine Zs rfl 39 _ _ rfl u.heap.size 0 Z rfl rfl (t _ rfl) P O ?_;generalize hX:World.setCells _ u.heap.size 0 _=wE;have K:Aside (Ba w wE/\wE.there w.heap.size 0 (Ku Kk).length):=(kl b.1 b.2.1 b.2.2 (Below.behind L (ug hX))).2;have J:=(kl b.1 b.2.1 b.2.2 (Below.behind L (ug hX))).1;clear hX t)| (refine Zs rfl 46 _ _ rfl w.heap.size 0 (Ku Kk).toArray rfl rfl J R x ?_))
 refine Zv (v:=Wa #[Sa (Ku Kk).toArray,Aq f3 sent]) (Ol results138 _ _ _ w.heap.size 0 rfl (Yg _ _ _ 46 _ _ (Zn _ _ _ (Ku Kk) K.2) underlying46 rfl qh)) rfl ⟨Cg K.1 (Za _) _ _,rfl⟩
theorem UF(o:Nat):∀(L:List Value) (k:Nat) (Z:Array Value) (i:Nat),o+k+L.length<=Z.size->(List.foldl (λ(cs:Array Value) (x:Value×Nat)=>cs.setIfInBounds (o+x.2) x.1) Z (L.zipIdx k))[i]? =if o+k<=i/\i<o+k+L.length then L[i-(o+k)]? else Z[i]? :=by
 intro L;induction L with
 |nil=>intro k Z i _;simp;omega
 |cons v L ih=>
  intro k Z i h;rw[Zu]at h⊢;rw[List.zipIdx_cons,X6,ih (k+1) _ i (by rw[X8];omega)];by_cases a:o+(k+1)<=i/\i<o+(k+1)+L.length;.rw[Zo a,Zo (by omega)];obtain⟨j,c⟩:∃j,i-(o+k)=j+1:=⟨i-(o+k)-1,by omega⟩;rw[c,List.getElem?_cons_succ,show i-(o+(k+1))=j by omega]
  .rw[Zj a,Vm];by_cases b:o+k=i;.subst b;rw[Zo rfl,Zo (by omega),Zo (by omega),J4];rfl
   .rw[Zj b,Zj (by omega)]
theorem MD(o:Nat):∀(L:List Value) (k:Nat) (Z:Array Value),(List.foldl (λ(cs:Array Value) (x:Value×Nat)=>cs.setIfInBounds (o+x.2) x.1) Z (L.zipIdx k)).size=Z.size:=by
 intro L;induction L with
 |nil=>intro k Z;rfl
 |cons v L ih=>intro k Z;rw[List.zipIdx_cons,X6,ih,X8]
theorem PC(o:Nat)(Z D:Array Value)(hD:D.size=32):Array.foldl (λ(cs:Array Value) (x:Value×Nat)=>cs.setIfInBounds (o+x.2) x.1) Z D.zipIdx 0 32=List.foldl (λ(cs:Array Value) (x:Value×Nat)=>cs.setIfInBounds (o+x.2) x.1) Z (D.toList.zipIdx 0):=by
 have h:(32:Nat)=D.zipIdx.size:=by simp[hD]
 rw[h,<-Array.foldl_toList,Array.toList_zipIdx]
theorem qR(Z D2:Array Value)(v0 v1:Nat)(hZ:Z.size=66)(l2:D2.size=32):(Array.foldl (λ(cs:Array Value) (x:Value×Nat)=>cs.setIfInBounds (2+x.2) x.1) ((Z.setIfInBounds 0 (Ia .u64 (v0:Int))).setIfInBounds 1 (Ia .u64 (v1:Int))) D2.zipIdx 0 32).size=66:=by rw[PC 2 _ D2 l2,MD];simp[hZ]
theorem iN(Z D2 D3:Array Value)(v0 v1:Nat)(R C:List Nat)(hZ:Z.size=66)(h2:D2.toList=R.map Kf)(h3:D3.toList=C.map Kf)(l2:D2.size=32)(l3:D3.size=32):Array.foldl (λ(cs:Array Value) (x:Value×Nat)=>cs.setIfInBounds (34+x.2) x.1) (Array.foldl (λ(cs:Array Value) (x:Value×Nat)=>cs.setIfInBounds (2+x.2) x.1) ((Z.setIfInBounds 0 (Ia .u64 (v0:Int))).setIfInBounds 1 (Ia .u64 (v1:Int))) D2.zipIdx 0 32) D3.zipIdx 0 32=(Ku ⟨v0,v1,R,C⟩).toArray:=by
 have d:D2.toList.length=32:=by rw[Yh,l2]
 have e:D3.toList.length=32:=by rw[Yh,l3]
 have g:(R.map Kf).length=32:=by rw[<-h2];exact d
 have h:(C.map Kf).length=32:=by rw[<-h3];exact e
 rw[PC 34 _ D3 l3,PC 2 _ D2 l2];apply Array.ext_getElem?;intro i;have f:((Z.setIfInBounds 0 (Ia .u64 (v0:Int))).setIfInBounds 1 (Ia .u64 (v1:Int))).size=66:=by simp[hZ]
 rw[UF 34 _ 0 _ i (by rw[MD,f,e];omega),UF 2 _ 0 _ i (by rw[f,d];omega),d,e,h2,h3];rw[show(Ku ⟨v0,v1,R,C⟩).toArray[i]? =(Ku ⟨v0,v1,R,C⟩)[i]? by simp];unfold Ku;simp only[V0];by_cases a:i<2
 .rw[Zj (by omega),Zj (by omega),Vm,Vm,X8,hZ];match i,a with
  |0,_=>simp
  |1,_=>simp
 .obtain⟨j,rfl⟩:∃j,i=j+2:=⟨i-2,by omega⟩;rw[List.getElem?_cons_succ,List.getElem?_cons_succ];by_cases b:j<32;.rw[Zj (by omega),Zo (by omega),Yl (by omega)];congr 1
  .by_cases c:j<64;.rw[Zo (by omega),Z4 (by omega),g];congr 1
   .rw[Zj (by omega),Zj (by omega),Vb (by rw[Zq];omega),Array.getElem?_eq_none (by rw[f];omega)]
theorem EK{u3 w4:Fa}{b:Nat}(h:w3.rangeAt b 0 L/\b<w3.heap.size)(h1:Ba w3 u3)(h2:Ba u3 w4):w4.rangeAt b 0 L:=λj u hu=>
 (h2.cell (p:=⟨b,0+j,none⟩) (Zm h.2 h1.size)).trans ((h1.cell (p:=⟨b,0+j,none⟩) h.2).trans (h.1 j u hu))
theorem ET(f0 n0 f1 n1 f2 n2 f3 n3:Nat)(x0 x1 x2 x3:Da)(p0 p1 p2 p3:Option Addr)(m0 c0 m1 c1 m2 c2 m3 c3:Nat)(g cap:Nat)(sent:Nat->Addr)(w:Fa)(hF:Qb w sent)(hr:Lg w g ⟨f0,n0,false,x0,Ma p0 m0 c0⟩ ⟨f1,n1,false,x1,Ma p1 m1 c1⟩ ⟨f2,n2,false,x2,Ma p2 m2 c2⟩ ⟨f3,n3,false,x3,Ma p3 m3 c3⟩)(k0:G2 false (Ke x0))(k1:G2 false (Ke x1))(k2:x2.size=32)(k3:x3.size=32):Calls oa 138 #[Ma (some ⟨g,0,none⟩) 4 cap] w λe w'=>Ba w w'/\e=na (Wa #[Sa (Ku ⟨Nk (Ke x0),Nk (Ke x1),Ke x2,Ke x3⟩).toArray,da]):=by
 have HF:=Hq hF;have s:=Hq (λW d=>hr.cells (W:=W) d);clear hF hr;have q:=(s w (Zb _ _)).1;have j:=q 0 _ rfl;have k:=q 1 _ rfl;have l:=q 2 _ rfl;have m:=q 3 _ rfl;have n:=q 4 _ rfl;clear q;have hg:=(s w (Zb _ _)).2.2.2.2;have ai:¬g=w.heap.size:=by omega
 go_enter func138,ntmps138;go_wp2_with fail
 generalize hWW:World.alloc w _=W;have I:Hid (Ba w W/\W.there w.heap.size 0 66/\w.heap.size<W.heap.size):=⟨by rw[<-hWW];exact(Zb _ _).alloc (Za _) _,by rw[<-hWW];exact Le _ _ _ _ rfl,by rw[<-hWW];simp⟩;clear hWW j k l m n hg ai;refine(Sq f0 n0 x0 p0 m0 c0 _ k0).mono ?_;rintro e w1 ⟨z,rfl⟩;have N:=Hq (A2 (Below.behind I.1 z) z);obtain⟨Y,G⟩:=nm (Nk (Ke x0));have ae:=Hq G;rw[G];clear z k0 G;have q:=(s w1 N.1).2.1;have j:=q 0 _ rfl;have k:=q 1 _ rfl;have l:=q 2 _ rfl;have m:=q 3 _ rfl;have n:=q 4 _ rfl;clear q;go_wp2_with fail
 clear j k l m n;refine(Sq f1 n1 x1 p1 m1 c1 _ k1).mono ?_;rintro e w2 ⟨B,rfl⟩;have O:=Hq (A2 (Below.behind N.1 B) (Below.behind N.2 B));obtain⟨Z,H⟩:=nm (Nk (Ke x1));have ag:=Hq H;rw[H];clear B k1 H;have q:=(s w2 O.1).2.2.1;have j:=q 0 _ rfl;have k:=q 1 _ rfl;have l:=q 2 _ rfl;have m:=q 3 _ rfl;have n:=q 4 _ rfl;clear q;go_wp2_with fail
 clear j k l m n;refine(vC f2 n2 x2 p2 m2 c2 _ k2).mono ?_;rintro e u2 ⟨d,rfl⟩;obtain⟨c,t,a,Q⟩:∃D:Array Value,((Ke x2).map Kf).toArray=D/\D.size=32/\D.all (·.oneCell')=true:=⟨_,rfl,by rw[Ym,Zl,ta,k2],Yp (Mo (Ke x2))⟩;rw[t];have J:=Hq t;have U2:=Hq (A2 (Below.behind O.1 d) (Below.behind O.2 d));have S:(oa.info? 39).map (·.size)=some c.size:=by rw[Ck,a]
 have p:∀C:Array Value,32=C.size->(u2.alloc (ma C 39)).there u2.heap.size 0 c.size:=λC o=>Le _ _ _ _ (by rw[a];exact o);have x:∀C:Array Value,32=C.size->c.toList.length=C.size:=λC o=>by rw[Yh,a];exact o
 clear d k2 t;go_wp2_with (refine Zs rfl 39 _ _ rfl u2.heap.size 0 c rfl rfl (p _ rfl) S Q ?_;generalize hX:World.setCells _ u2.heap.size 0 _=w3;have P:Aside (Ba w w3/\Ba W w3):=⟨Below.behind U2.1 (ug hX),Below.behind U2.2 (ug hX)⟩;have R2:Aside (w3.rangeAt u2.heap.size 0 c.toList/\u2.heap.size<w3.heap.size):=Lt hX (x _ rfl);have q:=(s w3 P.1).2.2.2.1;have j:w3.cell? ⟨g,15,none⟩=some (Ia ka (f3:Int)):=q 0 _ rfl;have k:w3.cell? ⟨g,16,none⟩=some (Ia ka (n3:Int)):=q 1 _ rfl;have l:w3.cell? ⟨g,17,none⟩=some (Oa false):=q 2 _ rfl;have m:w3.cell? ⟨g,18,none⟩=some (La x3):=q 3 _ rfl;have n:w3.cell? ⟨g,19,none⟩=some (Ma p3 m3 c3):=q 4 _ rfl;clear q hX p x)
 clear j k l m n;refine(vC f3 n3 x3 p3 m3 c3 _ k3).mono ?_;rintro e u3 ⟨d,rfl⟩;obtain⟨h,u,b,R⟩:∃D:Array Value,((Ke x3).map Kf).toArray=D/\D.size=32/\D.all (·.oneCell')=true:=⟨_,rfl,by rw[Ym,Zl,ta,k3],Yp (Mo (Ke x3))⟩;rw[u];have K:=Hq u;have U3:=Hq (A2 (Below.behind P.1 d) (Below.behind P.2 d));have T:(oa.info? 39).map (·.size)=some h.size:=by rw[Ck,b]
 have r:∀C:Array Value,32=C.size->(u3.alloc (ma C 39)).there u3.heap.size 0 h.size:=λC o=>Le _ _ _ _ (by rw[b];exact o);have y:∀C:Array Value,32=C.size->h.toList.length=C.size:=λC o=>by rw[Yh,b];exact o
 have V3:Aside (Ba w3 u3):=d;clear d k3 u;have E:=iN zeroCells46 c h Y Z (Ke x2) (Ke x3) (by kernel_rfl) (by rw[<-J.o]) (by rw[<-K.o]) a b;have ak:=qR zeroCells46 c Y Z (by kernel_rfl) a;obtain⟨f,i⟩:=nm ((Ku ⟨Y,Z,Ke x2,Ke x3⟩).toArray);rw[i]at E;have L:f.size=66:=by rw[<-i,Ym];exact Lo (by have :=Y5 Array.size J.o;rw[a,Ym,Zl]at this;exact this) (by have :=Y5 Array.size K.o;rw[b,Ym,Zl]at this;exact this)
 have ah:f.all (·.oneCell')=true:=by rw[<-i];exact qk _
 have M:(oa.info? 46).map (·.size)=some f.size:=by rw[qh,L]
 have ac:=Hq i;clear i;have V:(oa.info? 39).map (·.size)=some c.toList.length:=by rw[Ck,Yh,a]
 have X:(oa.info? 39).map (·.size)=some h.toList.length:=by rw[Ck,Yh,b]
 go_wp2_with (first| (refine Zs rfl 39 _ _ rfl u3.heap.size 0 h rfl rfl (r _ rfl) T R ?_;generalize hX:World.setCells _ u3.heap.size 0 _=w4;have B4:Aside (Ba w w4/\Ba W w4):=⟨Below.behind U3.1 (ug hX),Below.behind U3.2 (ug hX)⟩;have r3:w4.rangeAt u3.heap.size 0 h.toList:=(Lt hX (y _ rfl)).1;have r2:w4.rangeAt u2.heap.size 0 c.toList:=EK R2 V3 (ug hX);have F:w4.there w.heap.size 0 f.size:=(by rw[L];exact(kl I.1 I.2.1 I.2.2 B4.2).1);clear hX r y)| (refine Zr rfl 39 _ rfl u2.heap.size 0 rfl c.toList _ r2 underlying39 rfl V ?_)| (refine Zr rfl 39 _ rfl u3.heap.size 0 rfl h.toList _ r3 underlying39 rfl X ?_)| (refine Zs rfl 46 _ _ rfl w.heap.size 0 f rfl rfl F M ah ?_))
 have U:w4.there w.heap.size 0 f.toList.length:=by rw[Yh];exact F
 have aj:(oa.info? 46).map (·.size)=some f.toList.length:=by rw[Yh];exact M
 refine Zv (v:=Wa #[Sa f,da]) (Ol results138 _ _ _ w.heap.size 0 rfl (Yg _ _ _ 46 _ _ (Zn _ _ _ f.toList U) underlying46 rfl aj)) rfl ⟨Cg B4.1 (Za _) _ _,?_⟩;rw[ae.o,ag.o,ac.o]
def It.zf:It->Bool
 | .text _ _ _=>false
 | .list _ _ _=>true
def It.vg:It->List Nat
 | .text _ _ t=>t
 | .list _ _ _=>[]
def It.items:It->List It
 | .text _ _ _=>[]
 | .list _ _ l=>l
def Au(y:It):Prop:=G2 y.zf y.vg
def Aj(y:It):Prop:=y.zf=false/\y.vg.length=32
instance (y:It):Decidable (Au y):=by unfold Au;infer_instance
instance (y:It):Decidable (Aj y):=by unfold Aj;infer_instance
def Gh(y0 y1 y2 y3:It):Except Er Acc:=if ¬Au y0 then .error (.place y0.fr (.base 13))
 else if ¬Au y1 then .error (.place y1.fr (.base 13))
 else if ¬Aj y2 then .error (.place y2.fr (.base 13))
 else if ¬Aj y3 then .error (.place y3.fr (.base 13))
 else .ok ⟨Nk y0.vg,Nk y1.vg,y2.vg,y3.vg⟩
def G0(l:List Nat):Except Er Acc:=match Gb l with
 | .error e=>.error e
 | .ok x=>
  match x.items with
  | [y0,y1,y2,y3]=>Gh y0 y1 y2 y3
  |_=>.error (.place x.fr (.base 13))
variable{F:Nat->Prop}
theorem As{d:Nat}{e:El}{y:It}(h:Tree Nj kP d w F e y):e.fr=y.fr/\e.mc=y.zf/\Ke e.text=y.vg:=by
 have f:En e/\kP.tx e y->e.fr=y.fr/\e.mc=y.zf/\Ke e.text=y.vg:=by rintro⟨⟨b,_⟩,a⟩;have a:=a;subst a;exact⟨rfl,b,rfl⟩
 cases d with
 |zero=>exact f h
 |succ d=>
  rcases h with h|⟨b,ps,_,_,a,c⟩;.exact f h
  .have c:=c;subst c;exact⟨rfl,b,by rw[a];rfl⟩
def Mf(r:Except Er Acc)(sent:Nat->Addr)(w:Fa)(e:Ending)(w':Fa):Prop:=Ba w w'/\(∀er,r=.error er->∃t v,er.val sent=ca t v/\e=na (Wa #[Sa (Ku Kk).toArray,ca t v]))/\∀a,r=.ok a->e=na (Wa #[Sa (Ku a).toArray,da])
variable{r:Except Er Acc}{sent:Nat->Addr}
theorem Mf.Ii{er:Er}(h:r=.error er){e:Ending}{w':Fa}{t:TypeId}{v:Value}(hb:Ba w w')(hv:er.val sent=ca t v)(he:e=na (Wa #[Sa (Ku Kk).toArray,ca t v])):Mf r sent w e w':=⟨hb,λj hj=>(by rw[h]at hj;cases hj;exact⟨t,v,hv,he⟩),λa ha=>by rw[h]at ha;cases ha⟩
theorem rJ{d:Nat}(w:Fa)(g cap:Nat)(e0 e1 e2 e3:El)(y0 y1 y2 y3:It)(sent:Nat->Addr)(hF:Qb w sent)(hr:Lg w g e0 e1 e2 e3)(t0:Tree Nj kP d w F e0 y0)(t1:Tree Nj kP d w F e1 y1)(t2:Tree Nj kP d w F e2 y2)(t3:Tree Nj kP d w F e3 y3):Calls oa 138 #[Ma (some ⟨g,0,none⟩) 4 cap] w (Mf (Gh y0 y1 y2 y3) sent w):=by
 obtain⟨n,l,i,s0⟩:=t0.sub;obtain⟨O,I,r,s1⟩:=t1.sub;obtain⟨P,J,s,s2⟩:=t2.sub;obtain⟨Q,K,t,s3⟩:=t3.sub;obtain⟨a0,W,u⟩:=As t0;obtain⟨a1,X,v⟩:=As t1;obtain⟨a2,Y,x⟩:=As t2;obtain⟨a3,Z,y⟩:=As t3;obtain⟨j,m,l0,o,u0⟩:=e0;obtain⟨z,L,l1,S,u1⟩:=e1;obtain⟨B,M,l2,p,u2⟩:=e2;obtain⟨C,N,l3,q,u3⟩:=e3;simp only at s0 s1 s2 s3 a0 W u a1 X v a2 Y x a3 Z y;subst s0 s1 s2 s3;clear t0 t1 t2 t3;have z2:=ta p;have z3:=ta q;unfold Gh;by_cases D:Au y0;case neg=>rw[Zo D];refine(NJ j m l0 o n l i _ _ _ g cap sent w hF hr (by rw[W,u];exact D)).mono ?_;rintro e R ⟨f,rfl⟩;exact .Ii rfl f rfl (by rw[a0];rfl)
 rw[Zj (λh=>h D)];have b:=D;unfold Au at b;rw[<-W,<-u]at b;obtain rfl:=b.1;by_cases E:Au y1;case neg=>rw[Zo E];refine(sP j m z L B M C N l1 l2 l3 o S p q n O P Q l i I r J s K t g cap sent w hF hr b (by rw[X,v];exact E)).mono ?_;rintro e R ⟨f,rfl⟩;exact .Ii rfl f rfl (by rw[a1];rfl)
 rw[Zj (λh=>h E)];have c:=E;unfold Au at c;rw[<-X,<-v]at c;obtain rfl:=c.1;by_cases G:Aj y2;case neg=>rw[Zo G];refine(cQ j m z L B M C N l2 l3 o S p q n O P Q l i I r J s K t g cap sent w hF hr b c (by rw[<-z2,x,Y];exact G)).mono ?_;rintro e R ⟨f,rfl⟩;exact .Ii rfl f rfl (by rw[a2];rfl)
 rw[Zj (λh=>h G)];obtain⟨T,k⟩:=G;rw[<-Y]at T;rw[<-x,z2]at k;subst T;by_cases H:Aj y3;case neg=>rw[Zo H];refine(YL j m z L B M C N l3 o S p q n O P Q l i I r J s K t g cap sent w hF hr b c k (by rw[<-z3,y,Z];exact H)).mono ?_;rintro e R ⟨f,rfl⟩;exact .Ii rfl f rfl (by rw[a3];rfl)
 rw[Zj (λh=>h H)];obtain⟨U,V⟩:=H;rw[<-Z]at U;rw[<-y,z3]at V;subst U;refine(ET j m z L B M C N o S p q n O P Q l i I r J s K t g cap sent w hF hr b c k V).mono ?_;rintro e R ⟨f,rfl⟩;refine⟨f,λer he=>(by cases he),λa ha=>?_⟩;cases ha;rw[u,v,x,y]
theorem bM(s:Da)(t:TypeId)(v:Value)(w:Fa)(hD:∀W,Ba w W->Calls oa 127 #[La s] W λe w'=>Ba W w'/\e=na (Wa #[H0,ca t v])):Calls oa 91 #[La s] w λe w'=>Ba w w'/\e=na (Wa #[Sa (Ku Kk).toArray,ca t v]):=by
 have i:=Hq hD;clear hD;go_enter func91,ntmps91;go_wp2_with fail
 generalize hWW:World.alloc w _=W;have b:Hid (Ba w W/\W.there w.heap.size 0 66/\w.heap.size<W.heap.size):=⟨by rw[<-hWW];exact(Zb _ _).alloc (Za _) _,by rw[<-hWW];exact Le _ _ _ _ rfl,by rw[<-hWW];simp⟩;clear hWW;refine(i _ b.1).mono ?_;rintro e d ⟨a,rfl⟩;have g:∀o,(d.alloc o).there w.heap.size 0 (Ku Kk).toArray.size:=λo=>(kl b.1 b.2.1 b.2.2 (a.alloc a.size o)).1;have f:Aside (∀o,Ba w (d.alloc o)/\(d.alloc o).there w.heap.size 0 (Ku Kk).length):=λo=>(kl b.1 b.2.1 b.2.2 (a.alloc a.size o)).2;have h:=qh;have c:=qk Kk;have j:=Hq g;clear a g;go_wp2_with (refine Zs rfl 46 _ _ rfl w.heap.size 0 (Ku Kk).toArray rfl rfl (j _) h c ?_)
 refine Zv (v:=Wa #[Sa (Ku Kk).toArray,ca t v]) (Ol results91 _ _ _ w.heap.size 0 rfl (Yg _ _ _ 46 _ _ (Zn _ _ _ (Ku Kk) (f _).2) underlying46 rfl qh)) rfl ⟨Cg (f _).1 (Za _) _ _,rfl⟩
theorem gK(s:Da)(fr:Nat)(sent:Nat->Addr)(w:Fa)(hF:Qb w sent)(hD:∀W,Ba w W->Calls oa 127 #[La s] W λe w'=>Ba W w'/\∃(en:Nat) (l:Bool) (tx:Da) (p:Option Addr) (m c:Nat),(l=false\/l=true/\((m:Int)==4)=false)/\e=na (Wa #[G1 fr en l tx p m c,da])):Calls oa 91 #[La s] w λe w'=>Ba w w'/\e=na (Wa #[Sa (Ku Kk).toArray,Aq fr sent]):=by
 have q:=Hq hD;have o:Hid (∀W en l tx p m c,Ba w W->Calls oa 137 #[G1 fr en l tx p m c] W λe w'=>e=na (Aq fr sent)/\Ba W w'):=λW en l tx p m c r=>GC fr en l tx p m c sent W (hF.below r);have k:=qh;have g:=qk Kk;clear hD hF;go_enter func91,ntmps91;go_wp2_with fail
 generalize hWW:World.alloc w _=W;have a:Hid (Ba w W/\W.there w.heap.size 0 66/\w.heap.size<W.heap.size):=⟨by rw[<-hWW];exact(Zb _ _).alloc (Za _) _,by rw[<-hWW];exact Le _ _ _ _ rfl,by rw[<-hWW];simp⟩;clear hWW;refine(q _ a.1).mono ?_;rintro e t ⟨b,en,l,tx,p,m,c,h,rfl⟩;have f:=Hq (A2 (Below.behind a.1 b) b);clear b;rcases h with rfl|⟨rfl,h4⟩;all_goals
  go_wp2_with fail
  refine(o _ en _ tx p m c (f.1.alloc f.1.size _)).mono ?_;rintro e n ⟨rfl,d⟩;have i:=(kl a.1 a.2.1 a.2.2 (Below.behind f.2 (Below.up d))).1;have j:Aside (Ba w n/\n.there w.heap.size 0 (Ku Kk).length):=(kl a.1 a.2.1 a.2.2 (Below.behind f.2 (Below.up d))).2;clear d;go_wp2_with (refine Zs rfl 46 _ _ rfl w.heap.size 0 (Ku Kk).toArray rfl rfl i k g ?_)
  refine Zv (v:=Wa #[Sa (Ku Kk).toArray,Aq fr sent]) (Ol results91 _ _ _ w.heap.size 0 rfl (Yg _ _ _ 46 _ _ (Zn _ _ _ (Ku Kk) j.2) underlying46 rfl qh)) rfl ⟨Cg j.1 (Za _) _ _,rfl⟩
theorem Mf.shape{e:Ending}{w':Fa}(h:Mf r sent w e w'):Ba w w'/\∃(A:Array Value) (ev:Value),e=na (Wa #[Sa A,ev])/\A.all (·.oneCell')=true/\((∃er t v,r=.error er/\er.val sent=ca t v/\ev=ca t v/\A=(Ku Kk).toArray)\/∃a,r=.ok a/\ev=da/\A=(Ku a).toArray):=by
 obtain⟨d,b,c⟩:=h;refine⟨d,?_⟩;rcases r with er|a;.obtain⟨t,v,g,f⟩:=b er rfl;exact⟨_,_,f,qk _,.inl ⟨er,t,v,rfl,g,rfl,rfl⟩⟩
 .exact⟨_,_,c a rfl,qk _,.inr ⟨a,rfl,rfl,rfl⟩⟩
def R8(r:Except Er Acc):Prop:=∀a,r=.ok a->a.root.length=32/\a.code.length=32
theorem ZM(y0 y1 y2 y3:It):R8 (Gh y0 y1 y2 y3):=by
 intro a h;unfold Gh at h;split at h;.cases h
 .split at h;.cases h
  .split at h;.cases h
   .split at h;.cases h
    .rename_i h2 h3
     cases h;exact⟨(Classical.not_not.1 h2).2,(Classical.not_not.1 h3).2⟩
theorem NM(s:Da)(fr:Nat)(r:Except Er Acc)(hL:R8 r)(sent:Nat->Addr)(w:Fa)(hD:∀W,Ba w W->Calls oa 127 #[La s] W λe w'=>Ba W w'/\∃(en:Nat) (tx:Da) (g cap:Nat),e=na (Wa #[G1 fr en true tx (some ⟨g,0,none⟩) 4 cap,da])/\∀W2,Ba w' W2->Calls oa 138 #[Ma (some ⟨g,0,none⟩) 4 cap] W2 (Mf r sent W2)):Calls oa 91 #[La s] w (Mf r sent w):=by
 have z:=Hq hD;have n:=Hq hL;clear hD hL;go_enter func91,ntmps91;go_wp2_with fail
 generalize hWW:World.alloc w _=W;have b:Hid (Ba w W/\W.there w.heap.size 0 66/\w.heap.size<W.heap.size):=⟨by rw[<-hWW];exact(Zb _ _).alloc (Za _) _,by rw[<-hWW];exact Le _ _ _ _ rfl,by rw[<-hWW];simp⟩;clear hWW;refine(z _ b.1).mono ?_;rintro e D ⟨c,en,tx,g,cap,rfl,q⟩;have l:=Hq (A2 (Below.behind b.1 c) c);have B:=Hq q;clear c q;go_wp2_with fail
 refine(B _ ((Zb _ _).alloc (Za _) _)).mono ?_;intro e y k;obtain⟨d,A,C,rfl,p,u⟩:=k.shape;have j:A.size=66:=by
  rcases u with⟨er,t,v,_,_,_,rfl⟩|⟨a,ha,_,rfl⟩;.rfl
  .rw[Ym];exact Lo (n a ha).1 (n a ha).2
 have o:=Hq k;have f:y.there w.heap.size 0 A.size:=by rw[j];exact(kl b.1 b.2.1 b.2.2 (Below.behind l.2 (Below.up d))).1
 have h:y.there w.heap.size 0 A.toList.length:=by rw[Yh];exact f
 have m:=Hq (A2 (Below.behind l.1 (Below.up d)) h);have i:(oa.info? 46).map (·.size)=some A.size:=by rw[qh,j]
 have x:(oa.info? 46).map (·.size)=some A.toList.length:=by rw[Yh];exact i
 clear k u d h j;go_wp2_with (refine Zs rfl 46 _ _ rfl w.heap.size 0 A rfl rfl f i p ?_)
 refine Zv (v:=Wa #[Sa A,C]) (Ol results91 _ _ _ w.heap.size 0 rfl (Yg _ _ _ 46 _ _ (Zn _ _ _ A.toList m.2) underlying46 rfl x)) rfl ?_;exact⟨Cg m.1 (Za _) _ _,o.2.1,o.2.2⟩
theorem ZK{ps:List (El×It)}{e0 e1 e2 e3:El×It}(h:ps=[e0,e1,e2,e3]):(ps.flatMap λp=>Nj p.1)=Nj e0.1++Nj e1.1++Nj e2.1++Nj e3.1:=by subst h;simp
variable{l:List Nat}
theorem cK{er:Er}(h:Gb l=.error er):G0 l=.error er:=by unfold G0;rw[h]
theorem FT{x y0 y1 y2 y3:It}(h:Gb l=.ok x)(hx:x.items=[y0,y1,y2,y3]):G0 l=Gh y0 y1 y2 y3:=by unfold G0;rw[h];simp only;rw[hx]
theorem EN{x:It}(h:Gb l=.ok x)(h4:¬x.items.length=4):G0 l=.error (.place x.fr (.base 13)):=by
 unfold G0;rw[h];simp only;split
 .rename_i hx
  rw[hx]at h4;simp at h4
 .rfl
theorem PN(s:Da)(sent:Nat->Addr)(w:Fa)(hF:Qb w sent):Calls oa 91 #[La s] w (Mf (G0 (Ke s)) sent w):=by
 have B:=λW (i:Ba w W)=>yE s sent W (hF.below i);cases hd:Gb (Ke s)with
 |error er=>
  rw[cK hd];obtain⟨t,v,K⟩:=er.shape sent;refine(bM s t v w (λW i=>(B W i).mono λe y h=>?_)).mono ?_;.obtain⟨d,M,_⟩:=h;obtain⟨T,U,z,n⟩:=M er hd;rw[K]at z;cases z;exact⟨d,n⟩
  .rintro e y ⟨d,rfl⟩;exact .Ii rfl d K rfl
 |ok x=>
  by_cases F:x.items.length=4
  .match hx:x.items,F with
   | [y0,y1,y2,y3],_=>
    rw[FT hd hx];refine NM s x.fr _ (ZM y0 y1 y2 y3) sent w (λW i=>(B W i).mono λe y h=>?_);obtain⟨d,_,E⟩:=h;obtain⟨H,q,l,r,p,m,c,f,n⟩:=E x hd;obtain⟨o,C,D⟩:=As f;simp only at o C D;rcases f with f|⟨b1,ps,b2,b3,b4,k⟩;.have :x=.text H q (Ke r):=f.2;subst this;simp[It.items]at hx
    .have k:=k;subst k;have hx:ps.map (·.2)=[y0,y1,y2,y3]:=hx;match ps,hx with
     | [e0,e1,e2,e3],hx=>
      simp only[Xm,J9,Vo,and_true]at hx;obtain⟨O,P,Q,R⟩:=hx;rcases b2 with⟨_,b,_⟩|⟨g,cap,b,_,_,hg,_,hrow⟩;.simp at b
      .simp only[Z3]at b;obtain⟨rfl,rfl,rfl⟩:=b;simp only at b1;subst b1;refine⟨d,q,r,g,c,n,λG a=>?_⟩;have I:=hF.below (Below.behind i (Below.behind d a));have J:Lg G g e0.1 e1.1 e2.1 e3.1:=⟨Zm hg a.size,λj u N=>(a.cell (p:=⟨g,0+j,none⟩) hg).trans (hrow j u (by rw[ZK rfl];exact N))⟩;have u0:=O▸(b3 e0 (by simp)).below a;have u1:=P▸(b3 e1 (by simp)).below a;have u2:=Q▸(b3 e2 (by simp)).below a;have u3:=R▸(b3 e3 (by simp)).below a;exact rJ G g c e0.1 e1.1 e2.1 e3.1 y0 y1 y2 y3 sent I J u0 u1 u2 u3
  .rw[EN hd F];refine(gK s x.fr sent w hF (λW i=>(B W i).mono λe y h=>?_)).mono ?_
   .obtain⟨d,_,E⟩:=h;obtain⟨H,q,l,r,p,m,c,f,n⟩:=E x hd;obtain⟨o,C,D⟩:=As f;simp only at o C D;subst o;refine⟨d,q,l,r,p,m,c,?_,n⟩;rcases f with f|⟨b1,ps,b2,b3,b4,k⟩;.exact .inl f.1.1
    .refine .inr ⟨b1,?_⟩;have k:=k;have S:m=ps.length:=by
      rcases b2 with⟨b,b',_⟩|⟨g,cap,b,_⟩;.simp only[Z3]at b;omega
      .simp only[Z3]at b;exact b.2.1
     have :ps.length≠4:=λL=>F (by rw[k];simpa[It.items]using L);simp;omega
   .rintro e y ⟨d,rfl⟩;exact .Ii rfl d rfl rfl
end
section
theorem qB{fn:Func}{p q:Tmp}{t1 t2:TypeId}(h:fn.results=#[.cell p t1,.cell q t2])(tmps:Array Value)(P:Program)(w:Fa)(b c:Nat)(hp:tmps.getD p undef=Qa (some ⟨b,0,none⟩))(hq:tmps.getD q undef=Qa (some ⟨c,0,none⟩)){v u:Value}(hv:(loadVar t1 ⟨b,0,none⟩).run P w=.ok v w)(hu:(loadVar t2 ⟨c,0,none⟩).run P w=.ok u w):(results fn tmps).run P w=.ok (Wa #[v,u]) w:=by simp only[results,h];simp only[Array.mapM_eq_mapM_toList,List.mapM_cons,List.mapM_nil,Je,Result.andThen,hp,hq];simp[Result.andThen,asAddr,hv,hu]
variable{t:List Nat}
theorem gz{b:Nat}(h:b∈t):b∈Kh t:=by
 unfold Kh;split;.exact h
 .exact Vc _ h
theorem sw{y:It}(h:y.zf=false):y.code=Kh y.vg:=by
 cases y with
 |text a b t=>rfl
 |list a b l=>cases h
theorem kF(hb:∀x∈t,x<256)(h:G2 false t):G4 (Nk t)=t/\Nk t<18446744073709551616:=by
 obtain⟨_,a,c⟩:=h;refine⟨jw t hb a ?_,?_⟩
 .intro b d;cases t with
  |nil=>exact b rfl
  |cons x r=>have e:=d;subst e;exact c ⟨by simp,rfl⟩
 .have f:=yy t hb;have g:256^t.length<=256^8:=Jg (by decide) a;have i:256^8=18446744073709551616:=by decide
  omega
theorem YQ{y0 y1 y2 y3:It}{a:Acc}(h:Gh y0 y1 y2 y3=.ok a):Au y0/\Au y1/\Aj y2/\Aj y3/\a=⟨Nk y0.vg,Nk y1.vg,y2.vg,y3.vg⟩:=by
 unfold Gh at h;split at h;.cases h
 .split at h;.cases h
  .split at h;.cases h
   .split at h;.cases h
    .rename_i h0 h1 h2 h3
     cases h;exact⟨Decidable.not_not.1 h0,Decidable.not_not.1 h1,Decidable.not_not.1 h2,Decidable.not_not.1 h3,rfl⟩
theorem NQ{y0 y1 y2 y3:It}{er:Er}(h:Gh y0 y1 y2 y3=.error er):∃k,er=.place k (.base 13):=by
 unfold Gh at h;split at h;.cases h;exact⟨_,rfl⟩
 .split at h;.cases h;exact⟨_,rfl⟩
  .split at h;.cases h;exact⟨_,rfl⟩
   .split at h;.cases h;exact⟨_,rfl⟩
    .cases h
variable{l:List Nat}
theorem DH(hl:∀y∈l,y<256){a:Acc}(h:G0 l=.ok a):a.ok/\R9 a=l:=by
 unfold G0 at h;cases hd:Gb l with
 |error e=>rw[hd]at h;cases h
 |ok x=>
  rw[hd]at h;simp only at h;split at h
  .rename_i y0 y1 y2 y3 hx
   obtain⟨m,n,f,g,rfl⟩:=YQ h;obtain⟨_,_,_,z⟩:=mC hl hd;cases x with
   |text fr en t=>cases hx
   |list fr en its=>have i:=hx;subst i;have s:=sw m.1;have u:=sw n.1;have v:=sw f.1;have w:=sw g.1;have d:Ks (y0.code++(y1.code++(y2.code++(y3.code++[]))))=l:=z;rw[s,u,v,w]at d;have c:∀b∈Kh y0.vg++(Kh y1.vg++(Kh y2.vg++(Kh y3.vg++[]))),b<256:=λb c=>hl b (by rw[<-d];unfold Ks;exact Vc _ c);have o:∀b∈y0.vg,b<256:=λb h=>c b (by simp only[Yc];exact .inl (gz h));have p:∀b∈y1.vg,b<256:=λb h=>c b (by simp only[Yc];exact .inr (.inl (gz h)));have q:∀b∈y2.vg,b<256:=λb h=>c b (by simp only[Yc];exact .inr (.inr (.inl (gz h))));have r:∀b∈y3.vg,b<256:=λb h=>c b (by simp only[Yc];exact .inr (.inr (.inr (.inl (gz h)))));have j:=kF o ⟨rfl,m.2⟩;have k:=kF p ⟨rfl,n.2⟩;refine⟨⟨j.2,k.2,f.2,g.2,q,r⟩,?_⟩;unfold R9 Re;simp only;rw[j.1,k.1,<-d];simp only[Xz,Jy]
  .cases h
theorem WB(hl:∀y∈l,y<256){er:Er}(h:G0 l=.error er):er.Wb/\er.num≠0/\er.node=0/\er.proof=0:=by
 have a:∀k,(Er.place k (.base 13)).Wb/\(Er.place k (.base 13)).num≠0/\(Er.place k (.base 13)).node=0/\(Er.place k (.base 13)).proof=0:=λk=>⟨(by decide:13∈Gq),by simp[Er.num],rfl,rfl⟩;unfold G0 at h;cases hd:Gb l with
 |error e=>rw[hd]at h;cases h;obtain⟨b,c,_,d,f⟩:=lB hl hd;exact⟨b,c,d,f⟩
 |ok x=>
  rw[hd]at h;simp only at h;split at h;.obtain⟨k,rfl⟩:=NQ h;exact a k
  .cases h;exact a _
theorem FA:∀l:List Nat,Nb (Kl l)=l
 | []=>rfl
 |x::r=>by show(x/16*16+x%16)::Nb (Kl r)=x::r;rw[FA r];congr 1;omega
theorem WD(hl:∀y∈l,y<256):∀y∈Kl l,y<16:=by
 intro y c;obtain⟨x,b,a⟩:=List.mem_flatMap.1 c;have :=hl x b;rcases Yf.1 a with rfl|h;.omega
 .rcases Yf.1 h with rfl|h;.omega
  .cases h
theorem nH(hl:∀y∈l,y<256){p:List Nat}{leaf:Bool}(h:K6 l=some (p,leaf)):(∀y∈p,y<16)/\Kj p leaf=l/\p.length<=2*l.length:=by
 cases l with
 |nil=>cases h
 |cons c r=>
  have e:∀y∈r,y<256:=λy d=>hl y (Yy _ d);rw[ky]at h;split at h;.cases h
  .split at h
   .rename_i h3 h1
    cases h;have a:((c%16)::Kl r).length%2=1:=by rw[Zu,Cj];omega
    refine⟨?_,?_,by simp only[Zu,Cj];omega⟩
    .intro y d;rcases Yf.1 d with rfl|d;.omega
     .exact WD e y d
    .unfold Kj;rw[a];show((if decide (2<=c/16)=true then 32 else 0)+(16+c%16))::Nb (Kl r)=c::r;rw[FA];congr 1;by_cases b:2<=c/16;.rw[Z5 b,Zo rfl];omega
     .rw[Zt b,Zj (by decide)];omega
   .split at h
    .rename_i h3 h1 h0
     cases h;have a:(Kl r).length%2=0:=by rw[Cj];omega
     refine⟨WD e,?_,by simp only[Zu,Cj];omega⟩;unfold Kj;rw[a];show((if decide (2<=c/16)=true then 32 else 0)+0)::Nb (Kl r)=c::r;rw[FA];congr 1;by_cases b:2<=c/16;.rw[Z5 b,Zo rfl];omega
     .rw[Zt b,Zj (by decide)];omega
    .cases h
end
section
abbrev Ux(sent:Nat->Addr):Value:=ca 395 (Qa (some (sent 3)))
theorem UM(s:Da)(sent:Nat->Addr)(w:Fa)(hF:Qb w sent)(hu:K6 (Ke s)=none):Calls oa 84 #[La s] w λe w'=>e=na (Wa #[La ⟨#[]⟩,Oa false,Ux sent])/\Ba w w':=by
 have D:w.cell? ⟨12,0,none⟩=some (ca 395 (Qa (some (sent 3)))):=hF.var 3 (by decide);clear hF;have b:=ta s;by_cases m:0<s.size
 .obtain⟨c,v⟩:=nm ((s[0]'m).toNat);obtain⟨r,p⟩:=nm ((Ke s).drop 1);have f:Ke s=c::r:=by have e:=Yv (l:=Ke s) (i:=0) (by omega);rw[Yx,Zf,p]at e;rw[<-v,yg s 0 m,Z9 _ 0 (by omega)];exact e
  rw[f]at hu;have h:c<256:=by rw[<-v];exact Vy _
  rw[ky]at hu;obtain⟨g,k⟩:=nm (c/16);obtain⟨d,o⟩:=nm (c%16);have q:=TA c h;rw[k]at hu;rw[o]at hu q;have z:(c:Int)/16=(g:Int):=by omega
  have B:=lj s m;by_cases n:3<g
  .have u:(3:Int)<(g:Int):=by omega
   clear hu f p b k o n h;go_enter func84,ntmps84;go_wp2;go_region;go_wp2;go_region;go_wp2;go_ret3;exact⟨rfl,(Zb _ _).drew.drew⟩
  .rw[Zj n]at hu;have t:=Bw g (by omega);have u:(g:Int)<=3:=by omega
   by_cases a:g%2=1;.rw[Zo a]at hu;cases hu
   .rw[Zj a]at hu;have x:bits .and .u8 (g:Int) 1=0:=by rw[t,show g%2=0 by omega];rfl
    by_cases j:d=0;.rw[Zo j]at hu;cases hu
    .have y:((d:Int) != 0)=true:=by simp[j]
     clear hu f p b k o n h t a j;go_enter func84,ntmps84;go_wp2;go_region;go_wp2;go_region;go_wp2;go_ret3;exact⟨rfl,(Zb _ _).drew.drew⟩
 .have C:s.toList.isEmpty=true:=by
   rw[Vn];have :s.data.toList.length=s.size:=by simp
   have e:s.data.toList=[]:=Ye (by omega);rw[e];rfl
  clear hu b m;go_enter func84,ntmps84;go_wp2;go_region;go_wp2;go_ret3;exact⟨rfl,(Zb _ _).drew⟩
end
end Go.Proofs.YtpfbdlnibdfcoaaGreatDoor
