import Derived.Test.YtpfbdlnibdfcoaaGreatDoorPvPuG
namespace Go.Proofs.YtpfbdlnibdfcoaaGreatDoor
open Go.RowKit Tryz
open Value renaming int->Ia,string->La,slice->Ma,bool->Oa,pointer->Qa,agg->Sa,tuple->Wa,iface->ca,nilIface->da
open IntKind renaming i64->ka
open Obj renaming cells->ma
open Ending renaming returned->na
open Tryz renaming prog->oa
set_option maxRecDepth 100000
set_option maxHeartbeats 0
theorem vD(p v:Da)(a:Addr)(w:Fa):(Instr.typeAssert (ca (K9 (.leaf p v)) (Qa (some a))) 96 255 true).run oa w=.ok (Wa #[Qa (some a),Oa true]) w:=by kernel_rfl
theorem dK(t:Nd)(ht:∀p v,t≠ .leaf p v)(hn:t≠ .no)(a:Addr)(w:Fa):(Instr.typeAssert (ca (K9 t) (Qa (some a))) 96 255 true).run oa w=.ok (Wa #[Qa none,Oa false]) w:=by
 cases t with
 |no=>exact absurd rfl hn
 |leaf p v=>exact absurd rfl (ht p v)
 |ext _ _=>kernel_rfl
 |br _=>kernel_rfl
 |stub _=>kernel_rfl
theorem dS(w:Fa):(Instr.typeAssert da 96 255 true).run oa w=.ok (Wa #[Qa none,Oa false]) w:=by kernel_rfl
variable{B:Nat}{S:Bb}{w:Fa}{e:Nd}{v:Value}{r:Da}
theorem PH(p:Option Addr)(m c:Nat)(hf:ua B S w)(hv:od S v e)(hno:∀u,e≠ .leaf r u):Calls oa 159 #[Sa #[Ma p m c,v,La r]] w λx w'=>x=na (Qa none)/\Ba w w':=by
 rcases hv with⟨rfl,rfl⟩|⟨hne,b,rfl,hb⟩
 .have d:=dS;clear hf hno;go_enter func159,ntmps159;go_upto_region 2 with fail
  go_quiet (fail)
  go_wp2;go_ret;exact⟨rfl,Below.drewN ((Zb _ _).alloc (Za _) _) _⟩
 .by_cases f:∃q u,e=.leaf q u
  .obtain⟨q,u,rfl⟩:=f;have a:¬q=r:=λh=>hno u (by rw[h]);obtain⟨j,k⟩:=Fw hf hb;have g:=hf.lt hb;have d:=vD q u;have l:=St a;have i:¬b=w.heap.size:=by omega
   clear hf hb hno a hne;rw[show K9 (.leaf q u)=255 from rfl]at *;go_enter func159,ntmps159;go_upto_region 2 with fail
   go_quiet (fail)
   go_wp2;go_ret;exact⟨rfl,Below.drewN ((Zb _ _).alloc (Za _) _) _⟩
  .have d:=dK e (λq u h=>f ⟨q,u,h⟩) hne;clear hf hno hb f;go_enter func159,ntmps159;go_upto_region 2 with fail
   go_quiet (fail)
   go_wp2;go_ret;exact⟨rfl,Below.drewN ((Zb _ _).alloc (Za _) _) _⟩
variable{b:Nat}{u:Da}
theorem UG(p:Option Addr)(m c:Nat)(hf:ua B S w)(hb:S b=some (.leaf r u)):Calls oa 159 #[Sa #[Ma p m c,ca 255 (Qa (some ⟨b,0,none⟩)),La r]] w λx w'=>x=na (Qa (some ⟨b,0,none⟩))/\Ba w w':=by
 obtain⟨f,g⟩:=Fw hf hb;have d:=hf.lt hb;have a:=vD r u;have e:¬b=w.heap.size:=by omega
 clear hf hb;rw[show K9 (.leaf r u)=255 from rfl]at a;go_enter func159,ntmps159;go_upto_region 2 with fail
 go_quiet (fail)
 go_wp2;go_ret;exact⟨rfl,Below.drewN ((Zb _ _).alloc (Za _) _) _⟩
variable{o:Option Da}
theorem ZG(p:Option Addr)(m c:Nat)(hf:ua B S w)(hv:od S v e)(ho:(o=none/\∀u,e≠ .leaf r u)\/∃u,o=some u/\e=.leaf r u):Calls oa 146 #[Sa #[Ma p m c,v,La r]] w λx w'=>x=na (Wa #[La (o.getD ⟨#[]⟩),Oa o.isSome])/\Ba w w':=by
 have b:Ba w (w.alloc (ma #[Ma p m c,v,La r] 226)):=(Zb _ _).alloc (Za _) _;have q:=Hq b;rcases ho with⟨rfl,hno⟩|⟨u,rfl,rfl⟩
 .have l:=Hq (PH p m c (hf.below b) hv hno);have t:=hv.shape;clear hf hv hno b;rcases t with rfl|⟨T,a,rfl⟩;all_goals
   go_enter func146,ntmps146;go_wp2_with fail
   refine l.mono ?_;rintro x h ⟨rfl,f⟩;have k:Hid (Ba w h):=q.va f;clear f;go_wp2;go_ret2;exact⟨rfl,k.o⟩
 .obtain⟨d,rfl,g⟩:=hv.full (by simp);have l:=Hq (UG p m c (hf.below b) g);have j:=hf.ok d _ g;rw[Nd.ok]at j;have E:=hf.lt g;have z:=λW=>Hq (Bz u W (by omega));obtain⟨C,s⟩:=Fw (hf.below b) g;have n:d<(w.alloc (ma #[Ma p m c,ca (K9 (.leaf r u)) (Qa (some ⟨d,0,none⟩)),La r] 226)).heap.size:=by simp;omega
  clear hf hv g b j;rw[show K9 (.leaf r u)=255 from rfl]at *;go_enter func146,ntmps146;go_wp2_with fail
  refine l.mono ?_;rintro x h ⟨rfl,f⟩;have k:Hid (Ba w h):=q.va f;have F:h.cell? ⟨d,2,none⟩=some (La u):=(f.cell (p:=⟨d,2,none⟩) n).trans s;clear f C s;go_wp2_with fail
  refine(z h).mono ?_;rintro x D ⟨rfl,i⟩;have y:Hid (Ba w D):=k.va i;clear i;go_wp2;go_ret2;exact⟨rfl,y.o⟩
theorem nB(l:List Nat)(h:∀x∈l,x<256):qd (Kl l):=λx hx=>by unfold Kl at hx;obtain⟨a,ha,hx⟩:=List.mem_flatMap.1 hx;have :=h a ha;simp only[Yf,Vi,or_false]at hx;rcases hx with rfl|rfl<;>omega
variable{K:Array Nat}
theorem Co(hK:K.size=32)(hb:K3 K):Ke (Kg (Kl K.toList))=Kl K.toList/\qd (Kl K.toList)/\(Kg (Kl K.toList)).size=64:=by
 have b:∀x∈K.toList,x<256:=λx a=>by obtain⟨j,d,rfl⟩:=Xv a;have :=hb j;rw[Z9 K j (by simpa using d)]at this;simpa using this
 have c:=nB K.toList b;exact⟨qg λx a=>Nat.lt_trans (c x a) (by omega),c,by rw[me,Cj];simp[hK]⟩
variable{t:Nd}
theorem kK(hf:ua B S w)(ht:Ib S w b t)(hc:t.can 64)(hK:K.size=32)(hKb:K3 K)(ho:t.get (Kl K.toList)=o):Calls oa 107 #[Qa (some ⟨b,0,none⟩),Sa (K.toList.map Kf).toArray] w λx w'=>x=na (Wa #[La (o.getD ⟨#[]⟩),Oa o.isSome,da])/\Ba w w':=by
 obtain⟨n,q,a⟩:=Co hK hKb;obtain⟨p,H⟩:=nm (Kg (Kl K.toList));rw[H]at n a;rw[<-n]at q ho;obtain⟨l,e,v,F,Y⟩:=Wr 64 t p (by omega) (by rw[a];exact hc);obtain⟨O,G,D,_⟩:=Bu F (by rw[a];exact hc);have r:(o=none/\∀u,e≠ .leaf v u)\/∃u,o=some u/\e=.leaf v u:=by
  rw[<-ho,O];rcases gH G D with h|⟨u,h1,h2⟩;.refine .inl ⟨h,λu J=>?_⟩;rw[J,ni,Zo rfl]at h;cases h
  .exact .inr ⟨u,h2,h1⟩
 have d:Ba w (w.alloc (ma (K.toList.map Kf).toArray 37)):=(Zb _ _).alloc (Za _) _;have I:(w.alloc (ma (K.toList.map Kf).toArray 37)).rangeAt w.heap.size 0 (K.toList.map Kf):=λj u J=>by rw[Zf,Ze];simpa using J
 have P:=Mb hK
 obtain⟨Q,i⟩:=Nd.oe t 64 hc (Za _);have X:=Hq (Dw (hf.below d) (ht.frame (Fr.xa hf d)) hK hKb H (by rw[a];exact i) q (by omega) F (Oi G));have E:Hid (ua B S w/\Ba w (w.alloc (ma (K.toList.map Kf).toArray 37))/\((o=none/\∀u,e≠ .leaf v u)\/∃u,o=some u/\e=.leaf v u)):=⟨hf,d,r⟩;obtain⟨ov,m⟩:=nm (o.getD ⟨#[]⟩);obtain⟨ob,k⟩:=nm o.isSome;have M:Hid (o.getD ⟨#[]⟩=ov/\o.isSome=ob):=⟨m,k⟩;rw[m,k];clear hf ht hc hK hKb ho n q H a F Y O G D r d Q i m k;go_enter func107,ntmps107;go_wp2_with (first| (refine Zr rfl 37 _ rfl w.heap.size 0 rfl _ _ I underlying37 rfl P ?_)| (go_at_call 155;refine X.mono ?_;rintro x y ⟨z,ac,Z,rfl,c⟩;obtain⟨U,T,N,rfl⟩:=c.shape;have R:=c.node.shape;have f:=E.2.1.va z;have g:∀o,Ba w (y.alloc o):=(λo=>f.alloc f.size o);have W:Hid (∀s,Calls oa 146 #[Sa #[Ma U T N,Z,La v]] (y.alloc s) λx w'=>x=na (Wa #[La ov,Oa ob])/\Below (y.alloc s).heap.size (y.alloc s) w'):=(λs=>by rw[<-M.1,<-M.2];exact ZG U T N (E.1.below (g s)) c.node E.2.2);have L:=Hq g;clear z c f g;rcases R with rfl|⟨T2,a2,rfl⟩)| (go_at_call 146;refine(W _).mono ?_;rintro x w3 ⟨rfl,C⟩;have V:Hid (Ba w w3):=(L _).va C;clear C))
 all_goals go_ret3
 all_goals exact⟨rfl,V.o⟩
theorem kQ(hf:ua B S w)(ht:Ib S w b t)(hc:t.can 64)(hK:K.size=32)(hKb:K3 K)(ho:t.get (Kl K.toList)=o):Calls oa 54 #[Qa (some ⟨b,0,none⟩),Sa (K.toList.map Kf).toArray] w λx w'=>x=na (Wa #[La (o.getD ⟨#[]⟩),Oa o.isSome,Ia ka 0])/\Ba w w':=by
 have v:=ht.lt;have y:=Mb hK
 obtain⟨W0,c⟩:=nm (w.alloc (ma (K.toList.map Kf).toArray 37));have g:Ba w W0:=by rw[<-c];exact(Zb _ _).alloc (Za _) _
 have l:w.heap.size<W0.heap.size:=by rw[<-c];simp
 have f:W0.rangeAt w.heap.size 0 (K.toList.map Kf):=λj u r=>by rw[<-c,Zf,Ze];simpa using r
 have e:=g.drew;have a:=Fr.xa hf e;have k:=Hq (kK a.wa (ht.frame a) hc hK hKb ho);have p:=Hq e;have s:=underlying37;obtain⟨C,i⟩:=nm (o.getD ⟨#[]⟩);obtain⟨z,h⟩:=nm o.isSome;rw[i,h]at k⊢;clear hf ht hc hK hKb ho g e a i h;go_enter func54,ntmps54;go_upto_region 1 with fail
 clear c;go_region_held3 (λw'=>w'.rangeAt w.heap.size 0 (K.toList.map Kf)) (first|exact f|exact q) (first| (go_at_call 107;refine k.mono ?_;rintro x m ⟨rfl,d⟩;have q:m.rangeAt w.heap.size 0 (K.toList.map Kf):=zc f (d.block w.heap.size l);have n:Hid (Ba w m):=p.va d;clear d))
 all_goals go_wp2_with (go_at_call 75;refine(xu _).mono ?_;rintro x D ⟨rfl,rfl⟩)
 all_goals go_ret3
 all_goals exact⟨rfl,n.o⟩
theorem XR(hf:ua B S w)(ht:Ib S w b t)(hc:t.can 64)(hK:K.size=32)(hKb:K3 K)(hu0:0<u.size)(hu1:u.size<=100):Calls oa 50 #[Qa (some ⟨b,0,none⟩),Sa (K.toList.map Kf).toArray,La u] w λx w'=>x=na (Ia ka 0)/\∃S' t',Ib S' w' b t'/\t'.can 64/\(∀s,s.length=64->t'.get s=if s=Kl K.toList then some u else t.get s)/\yd B (· =b) S S' w w':=by
 obtain⟨d,n,a⟩:=Co hK hKb;obtain⟨p,m⟩:=nm (Kg (Kl K.toList));rw[m]at d a;have f:qd (Ke p):=by rw[d];exact n
 have h:t.can p.size:=by rw[a];exact hc
 obtain⟨l,e,E,j,D⟩:=Wr 64 t p (by omega) h;obtain⟨q,i⟩:=Nd.oe t 64 hc (Za _);obtain⟨g,v,y,z,C⟩:=WO j u hu0 hu1 h f (by omega);refine(WS hf ht q hK hKb m (by rw[a];exact i) f (by omega) j C ⟨z,y⟩ hu0 hu1 (by omega) v).mono ?_;rintro x w' ⟨rfl,S',o,k⟩;have c:=g.can;rw[a]at c;refine⟨rfl,S',_,o,c,λs r=>?_,k⟩;rw[<-d];exact g.get s (by rw[a];exact r)
theorem FO(hf:ua B S w)(ht:Ib S w b t)(hc:t.can 64)(hK:K.size=32)(hKb:K3 K)(ho:t.get (Kl K.toList)=none):Calls oa 105 #[Qa (some ⟨b,0,none⟩),Sa (K.toList.map Kf).toArray] w λx w'=>x=na (Wa #[Oa false,da])/\Ba w w':=by
 obtain⟨i,k,a⟩:=Co hK hKb;obtain⟨p,z⟩:=nm (Kg (Kl K.toList));rw[z]at i a;rw[<-i]at k ho;obtain⟨l,e,E,y,U⟩:=Wr 64 t p (by omega) (by rw[a];exact hc);obtain⟨I,H,J,_⟩:=Bu y (by rw[a];exact hc);have s:∀u,e≠ .leaf E u:=λu D=>by rw[I,D,ni,Zo rfl]at ho;cases ho
 have d:Ba w (w.alloc (ma (K.toList.map Kf).toArray 37)):=(Zb _ _).alloc (Za _) _;have C:(w.alloc (ma (K.toList.map Kf).toArray 37)).rangeAt w.heap.size 0 (K.toList.map Kf):=λj u D=>by rw[Zf,Ze];simpa using D
 have L:=Mb hK
 obtain⟨M,h⟩:=Nd.oe t 64 hc (Za _);have T:=Hq (Dw (hf.below d) (ht.frame (Fr.xa hf d)) hK hKb z (by rw[a];exact h) k (by omega) y (Oi H));have v:Hid (ua B S w/\Ba w (w.alloc (ma (K.toList.map Kf).toArray 37))/\∀u,e≠ .leaf E u):=⟨hf,d,s⟩;clear hf ht hc hK hKb ho i k z a y U I H J s d M h;go_enter func105,ntmps105;go_wp2_with (first| (refine Zr rfl 37 _ rfl w.heap.size 0 rfl _ _ C underlying37 rfl L ?_)| (go_at_call 155;refine T.mono ?_;rintro x n ⟨q,X,V,rfl,c⟩;obtain⟨P,O,G,rfl⟩:=c.shape;have N:=c.node.shape;have f:=v.2.1.va q;have g:∀o,Ba w (n.alloc o):=(λo=>f.alloc f.size o);have R:Hid (∀m,Calls oa 159 #[Sa #[Ma P O G,V,La E]] (n.alloc m) λx w'=>x=na (Qa none)/\Below (n.alloc m).heap.size (n.alloc m) w'):=(λm=>PH P O G (v.1.below (g m)) c.node v.2.2);have F:=Hq g;clear q c f g;rcases N with rfl|⟨T2,a2,rfl⟩)| (go_at_call 159;refine(R _).mono ?_;rintro x W ⟨rfl,r⟩;have Q:Hid (Ba w W):=(F _).va r;clear r))
 all_goals go_ret2
 all_goals exact⟨rfl,Q.o⟩
theorem SR{w2 w3:Fa}{r':Da}{l:List (Nd×Da)}{pv:Option Addr}{mv cv:Nat}(hf:ua B S w)(ht:Ib S w b t)(hb2:Ba w w2)(hF2:Followed S w.heap.size w2 l e (Ma pv mv cv) v)(hok:Av l .no)(hl:l.length<=1000)(hb3:Below (w2.alloc (ma #[Ma pv mv cv,v,La r'] 226)).heap.size (w2.alloc (ma #[Ma pv mv cv,v,La r'] 226)) w3):(w3.cell? ⟨w2.heap.size,0,none⟩=some (Ma pv mv cv)/\w3.cell? ⟨w2.heap.size,1,none⟩=some v/\w3.cell? ⟨w2.heap.size,2,none⟩=some (La r'))/\Calls oa 156 #[Qa (some ⟨b,0,none⟩),Sa #[Ma pv mv cv,v,La r'],da] w3 λx w'=>x=na da/\∃S',Ib S' w' b (He l .no)/\yd B (· =b) S S' w w':=by have f:=(hb2.alloc hb2.size _).va hb3;have n:=(hb3.block _ (by simp)).trans (Vz w2 _);have d:=((Zb _ _).alloc (Za _) _).va hb3;have c:=hF2.Cb d;obtain⟨p,g,h⟩:=c.row;have a:=Fr.xa hf f;refine⟨Dp n,(FD a.wa (ht.frame a) g h (λk o=>hf.fresh (g.block k o).1) c.node.shape (.inl ⟨rfl,rfl⟩) hl hok).mono ?_⟩;rintro x q ⟨rfl,i,j,m⟩;exact⟨rfl,i,j,(a.x _).trans m⟩
theorem gP(hf:ua B S w)(ht:Ib S w b t)(hc:t.can 64)(hK:K.size=32)(hKb:K3 K)(ho:t.get (Kl K.toList)=some u):Calls oa 105 #[Qa (some ⟨b,0,none⟩),Sa (K.toList.map Kf).toArray] w λx w'=>x=na (Wa #[Oa true,da])/\∃S' t',Ib S' w' b t'/\t'.can 64/\(∀s,s.length=64->t'.get s=if s=Kl K.toList then none else t.get s)/\yd B (· =b) S S' w w':=by
 obtain⟨m,n,a⟩:=Co hK hKb;obtain⟨p,R⟩:=nm (Kg (Kl K.toList));rw[R]at m a;rw[<-m]at n ho;have i:t.can p.size:=by rw[a];exact hc
 obtain⟨l,e,q,D,hl⟩:=Wr 64 t p (by omega) i;obtain⟨hg,Q,L,_⟩:=Bu D i;obtain⟨v,rfl⟩:∃v,e=.leaf q v:=by
  rcases gH Q L with h|⟨v,h1,_⟩;.rw[hg,h]at ho;cases ho
  .exact⟨v,h1⟩
 obtain⟨P,F⟩:=pP D v rfl i n (by omega);have y:=P.can;have k:=P.get;rw[a]at y k;rw[m]at k;have g:Ba w (w.alloc (ma (K.toList.map Kf).toArray 37)):=(Zb _ _).alloc (Za _) _;have T:(w.alloc (ma (K.toList.map Kf).toArray 37)).rangeAt w.heap.size 0 (K.toList.map Kf):=λj u hu=>by rw[Zf,Ze];simpa using hu
 have ac:=Mb hK
 obtain⟨ae,r⟩:=Nd.oe t 64 hc (Za _);have HW:=Hq (Dw (hf.below g) (ht.frame (Fr.xa hf g)) hK hKb R (by rw[a];exact r) n (by omega) D (Oi Q));have o:Hid (ua B S w/\Ba w (w.alloc (ma (K.toList.map Kf).toArray 37))/\Ib S w b t/\Av l .no/\l.length<=1000):=⟨hf,g,ht,F,by omega⟩;have Y:Hid ((He l .no).can 64/\∀s,s.length=64->(He l .no).get s=if s=Kl K.toList then none else t.get s):=⟨y,k⟩;clear hf ht hc hK hKb ho m n R a D hl hg Q L g ae r P F y k i;go_enter func105,ntmps105;go_wp2_with (first| (refine Zr rfl 37 _ rfl w.heap.size 0 rfl _ _ T underlying37 rfl ac ?_)| (go_at_call 155;refine HW.mono ?_;rintro x C ⟨G,ag,v2,rfl,f⟩;obtain⟨V,U,O,rfl⟩:=f.shape;have c:=o.2.1.va G;obtain⟨d,rfl,Z⟩:=f.node.full (by simp);have HV:Hid (∀z,Calls oa 159 #[Sa #[Ma V U O,ca (K9 (.leaf q v)) (Qa (some ⟨d,0,none⟩)),La q]] (C.alloc z) λx w'=>x=na (Qa (some ⟨d,0,none⟩))/\Below (C.alloc z).heap.size (C.alloc z) w'):=(λz=>UG V U O (o.1.below (c.alloc c.size z)) Z);have E:Hid (Ba w C/\Followed S w.heap.size C l (.leaf q v) (Ma V U O) (ca (K9 (.leaf q v)) (Qa (some ⟨d,0,none⟩)))):=⟨c,f.mono (by simp)⟩;clear G f c Z;rw[show K9 (.leaf q v)=255 from rfl]at *)| (go_at_call 159;refine(HV _).mono ?_;rintro x w3 ⟨rfl,H⟩;obtain⟨⟨e0,e1,e2⟩,I⟩:=SR o.1 o.2.2.1 E.1 E.2 o.2.2.2.1 o.2.2.2.2 H;have W:=Hq I;clear H I)| (go_at_call 156;refine W.mono ?_;rintro x w4 ⟨rfl,N,M,J⟩;have X:Hid (Ib N w4 b (He l .no)/\yd B (· =b) S N w w4):=⟨M,J⟩;clear M J))
 all_goals go_ret2
 all_goals exact⟨rfl,N,_,X.1,Y.1,Y.2,X.2⟩
theorem SP(hf:ua B S w)(ht:Ib S w b t)(hc:t.can 64)(hK:K.size=32)(hKb:K3 K)(ho:t.get (Kl K.toList)=o):Calls oa 52 #[Qa (some ⟨b,0,none⟩),Sa (K.toList.map Kf).toArray] w λx w'=>x=na (Wa #[Oa o.isSome,Ia ka 0])/\∃S' t',Ib S' w' b t'/\t'.can 64/\(∀s,s.length=64->t'.get s=if s=Kl K.toList then none else t.get s)/\yd B (· =b) S S' w w':=by
 have H:=ht.lt;have I:=Mb hK
 obtain⟨W0,c⟩:=nm (w.alloc (ma (K.toList.map Kf).toArray 37));have k:Ba w W0:=by rw[<-c];exact(Zb _ _).alloc (Za _) _
 have y:w.heap.size<W0.heap.size:=by rw[<-c];simp
 have f:W0.rangeAt w.heap.size 0 (K.toList.map Kf):=λj u E=>by rw[<-c,Zf,Ze];simpa using E
 have m:=k.drew;have a:=Fr.xa hf m;obtain⟨G,e⟩:=nm o.isSome;have C:Hid (Calls oa 105 #[Qa (some ⟨b,0,none⟩),Sa (K.toList.map Kf).toArray] W0.drew λx w'=>x=na (Wa #[Oa G,da])/\∃S' t',Ib S' w' b t'/\t'.can 64/\(∀s,s.length=64->t'.get s=if s=Kl K.toList then none else t.get s)/\yd B (· =b) S S' W0.drew w'):=by
  rw[<-e];cases o with
  |some u=>exact gP a.wa (ht.frame a) hc hK hKb ho
  |none=>
   refine(FO a.wa (ht.frame a) hc hK hKb ho).mono ?_;rintro x i ⟨rfl,l⟩;refine⟨rfl,S,t,(ht.frame a).frame (Fr.xa a.wa l),hc,λs _=>?_,(Fr.xa a.wa l).x _⟩;by_cases h:s=Kl K.toList;.rw[Zo h,h,ho]
   .rw[Zj h]
 have v:=Hq (A2 a (hf.fresh (Za _)));have F:=underlying37;rw[e];clear hf ht hc hK hKb ho k m a e;go_enter func52,ntmps52;go_upto_region 1 with fail
 clear c;go_region_held3 (λw'=>w'.rangeAt w.heap.size 0 (K.toList.map Kf)) (first|exact f|exact D) (first| (go_at_call 105;refine C.mono ?_;rintro x i ⟨rfl,r,g,q,n,p,d⟩;have D:i.rangeAt w.heap.size 0 (K.toList.map Kf):=zc f (d.other w.heap.size y v.2 (by show ¬w.heap.size=b;omega));have z:Hid (Ib r i b g/\g.can 64/\(∀s,s.length=64->g.get s=if s=Kl K.toList then none else t.get s)/\yd B (· =b) S r w i):=⟨q,n,p,(v.1.x _).trans d⟩;clear q n p d))
 all_goals go_wp2_with (go_at_call 75;refine(xu _).mono ?_;rintro x J ⟨rfl,rfl⟩)
 all_goals go_ret2
 all_goals exact⟨rfl,r,g,z.o⟩
end Go.Proofs.YtpfbdlnibdfcoaaGreatDoor
