import Derived.Test.YtpfbdlnibdfcoaaGreatDoorPvRefCode5
import Derived.Test.YtpfbdlnibdfcoaaGreatDoorPvRvD
namespace Go.Proofs.YtpfbdlnibdfcoaaGreatDoor
open Go.RowKit Tryz
open Value renaming int->Ia,string->La,slice->Ma,bool->Oa,pointer->Qa,agg->Sa,tuple->Wa,iface->ca,nilIface->da
open IntKind renaming i64->ka
open Obj renaming cells->ma
open Ending renaming returned->na
open Tryz renaming prog->oa
set_option maxRecDepth 100000
set_option maxHeartbeats 0
section
theorem qP{s p:List Nat}{leaf:Bool}(h:K6 s=some (p,leaf)):p.length<=2*s.length:=by
 cases s with
 |nil=>cases h
 |cons c r=>
  rw[ky]at h;split at h;.cases h
  .split at h;.cases h;simp[Cj];omega
   .split at h;.cases h;simp[Cj];omega
    .cases h
theorem li{za n:Nat}{l:Bool}{tx:Da}:P6 za n l tx=false↔(za+n≠64\/l=true\/(decide (0<tx.size)&&decide (tx.size<=100))=false):=by
 unfold P6;cases l
 .by_cases a:za+n=64
  .by_cases c:1<=tx.size
   .have b:0<tx.size:=by omega
    simp[a,c,b]
   .have b:¬0<tx.size:=by omega
    simp[a,c,b]
  .simp[a]
 .simp
theorem sj{za n:Nat}{t:Bool}:Rg za n t=false↔(n=0\/64<=za+n\/t=false):=by
 unfold Rg;cases t;.simp
 .by_cases a:1<=n
  .by_cases b:za+n<=63;.simp[a,b];omega
   .simp[a,b];omega
  .simp[a];omega
section
variable{w:Fa}(fr en:Nat)(tx0:Da)(g cap:Nat)(f1 e1:Nat)(l1:Bool)(tx1:Da)(p1:Option Addr)(m1 c1:Nat)(f2 e2:Nat)(l2:Bool)(tx2:Da)(p2:Option Addr)(m2 c2:Nat)(za:Nat)
theorem QQ(hgs:g<w.heap.size)(hrow1:w.rangeAt g 0 [Oa l1,La tx1,Ma p1 m1 c1,Ia ka (f1:Int),Ia ka (e1:Int)])(hrow:w.rangeAt g 5 [Oa l2,La tx2,Ma p2 m2 c2,Ia ka (f2:Int),Ia ka (e2:Int)])(ht1:tx1.size<=2048)(hdep:za<=64)(h1:f2<=e2)(h2:e2<=2048)(q:Nat->Except Er Nd)(hq0:l2=false->∀d,∃t,q d=.ok t)(hN:∀(d:Nat) W,d<64->l2=true->Ba w W->Calls oa 147 #[Sa #[Oa l2,La tx2,Ma p2 m2 c2,Ia ka (f2:Int),Ia ka (e2:Int)],Ia ka (d:Int)] W (Hh (q d) W)):Calls oa 147 #[Sa #[Oa true,La tx0,Ma (some ⟨g,0,none⟩) 2 cap,Ia ka (fr:Int),Ia ka (en:Int)],Ia ka (za:Int)] w (Hh (G7 fr za l1 tx1 l2 f2 e2 m2 tx2 q) w):=by
 have s0:=hrow1 0 _ rfl;have s1:=hrow1 1 _ rfl;have aq:¬g=w.heap.size:=by omega
 have ai:¬g=w.heap.size+1:=by omega
 have aj:g<w.heap.size+1:=by omega
 have HW:=Hq (Dk.start w #[Oa true,La tx0,Ma (some ⟨g,0,none⟩) 2 cap,Ia ka (fr:Int),Ia ka (en:Int)]);have s:Hid (∀W,Calls oa 185 #[Sa #[Oa true,La tx0,Ma (some ⟨g,0,none⟩) 2 cap,Ia ka (fr:Int),Ia ka (en:Int)]] W λe w'=>e=na (Ki 8 0 0 fr)/\Ba W w'):=λW=>PA fr en true tx0 _ 2 cap W;have HN:=Hq hN;have ao:=Hq hq0;have o:=Hq (A6 ht1 hdep h1 h2 hgs (A2 hrow1 hrow));have HU:=Hq (λW=>YI tx1 W (by omega));obtain⟨R,hR⟩:=nm (G7 fr za l1 tx1 l2 f2 e2 m2 tx2 q);rw[hR];have u:=Hq hR;clear hrow hrow1 ht1 hdep h1 h2 hN hq0 hR;go_enter func147,ntmps147;go_wp2_with fail
 refine(HU _).mono ?_;rintro e Y ⟨G,ae⟩;have r:=HW.step ae;have v:=Hq r;obtain⟨N,O,Q,S,T⟩:=qe r.box;have L:=(Zc (r.below.block g o.2.2.2.2.1)).trans s0;have b:=Hq (A2 (zc o.2.2.2.2.2.2 (r.below.block g o.2.2.2.2.1)) (Zm o.2.2.2.2.1 r.below.size));clear ae r s0 s1 aq ai hgs aj HU;cases hu:K6 (Ke tx1)with
 |none=>
  obtain rfl:=G.2 hu;have m:Hid (R=.error (.place fr (.noNode (.base 3)))\/R=.error (Ay fr)):=by
   rw[<-u.o];unfold G7;rw[hu];split;.exact .inr rfl
   .exact .inl rfl
  clear G hu u;cases l1 with
  |true=>
   go_wp2_with fail
   refine(s _).mono ?_;rintro e M ⟨rfl,a⟩;have c:=Hq (v.step a);obtain⟨y,c1,c2,z,B,C,D,E⟩:=Wg c.ft;clear a N O Q S T L;go_wp2;rcases m.o with rfl|rfl;.exact c.ret 8 0 0 fr rfl
   .exact c.ret 8 0 0 fr rfl
  |false=>
   go_wp2_with fail
   refine(s _).mono ?_;rintro e M ⟨rfl,a⟩;have c:=Hq (v.step a);obtain⟨y,c1,c2,z,B,C,D,E⟩:=Wg c.ft;clear a N O Q S T L;go_wp2;rcases m.o with rfl|rfl;.exact c.ret 8 0 0 fr rfl
   .exact c.ret 8 0 0 fr rfl
 |some uq=>
  obtain⟨p,K⟩:=uq;obtain rfl:=G.1 p K hu;have F:=qP hu;rw[ta]at F;cases l1 with
  |true=>
   have m:Hid (R=.error (Ay fr)):=by rw[<-u.o];exact rfl
   clear G hu u F;go_wp2_with fail
   refine(s _).mono ?_;rintro e M ⟨rfl,a⟩;have c:=Hq (v.step a);obtain⟨y,c1,c2,z,B,C,D,E⟩:=Wg c.ft;clear a N O Q S T L;go_wp2;rw[m.o];exact c.ret 8 0 0 fr rfl
  |false=>
   have x:=me p;obtain⟨P,X⟩:=nm (Kg p);rw[X]at x⊢;cases K with
   |true=>
    have H:Hid (∀W,Ba Y W->Calls oa 186 #[Sa #[Oa true,La tx0,Ma (some ⟨g,0,none⟩) 2 cap,Ia ka (fr:Int),Ia ka (en:Int)],La P,Ia ka (za:Int)] W λe w'=>e=na (Oa (P6 za P.size l2 tx2))/\Ba W w'):=λW I=>uO fr en tx0 g cap f2 e2 l2 tx2 p2 m2 c2 P za (Zm b.2 I.size) (zc b.1 (I.block g b.2)) (by have :=o.o;omega) (by have :=o.o;omega);have m:Hid ((P6 za P.size l2 tx2=false->R=.error (Ay fr))/\(P6 za P.size l2 tx2=true->l2=false/\∃t,R=.ok t)):=by
     rw[<-u.o];unfold G7;rw[Zj (by simp),hu];simp only[if_true];rw[x];refine⟨λh=>by rw[Zo (li.1 h)],λh=>?_⟩;have h':¬(za+p.length≠64\/l2=true\/(decide (0<tx2.size)&&decide (tx2.size<=100))=false):=λk=>by rw[li.2 k]at h;cases h
     rw[Zj h'];exact⟨by cases l2<;>simp_all,_,rfl⟩
    clear G hu u F x X;go_wp2_with fail
    refine(H _ (Zb _ _)).mono ?_;rintro e M ⟨rfl,a⟩;have i:=v.step a;have c:=Hq i;obtain⟨Z,y1,y2,y3,y4⟩:=qe i.box;have U:=(Zc (a.block g b.2)).trans (b.1 0 _ rfl);obtain⟨y,c1,c2,z,B,C,D,E⟩:=Wg i.ft;clear a i N O Q S T L H;cases hlb:P6 za P.size l2 tx2 with
    |false=>
     have f:=Hq (m.1 hlb);clear hlb;go_wp2_with fail
     refine(s _).mono ?_;rintro e w3 ⟨rfl,l⟩;have j:=Hq (c.step l);obtain⟨y,c1,c2,z,B,C,D,E⟩:=Wg j.ft;clear l Z y1 y2 y3 y4 U;go_wp2;rw[f.o];exact j.ret 8 0 0 fr rfl
    |true=>obtain⟨ag,ah⟩:=m.2 hlb;have f:=Hq ah;rw[ag]at U;clear hlb ag ah;go_wp2;obtain⟨t,J⟩:=f.o;rw[J];exact c.ret 0 0 0 0 rfl
   |false=>
    have H:Hid (∀W,Ba Y W->Calls oa 187 #[Sa #[Oa true,La tx0,Ma (some ⟨g,0,none⟩) 2 cap,Ia ka (fr:Int),Ia ka (en:Int)],La P,Ia ka (za:Int)] W λe w'=>e=na (Oa (Rg za P.size (Sb l2 f2 e2 m2 tx2)))/\Ba W w'):=λW I=>PT fr en tx0 g cap f2 e2 l2 tx2 p2 m2 c2 P za (Zm b.2 I.size) (zc b.1 (I.block g b.2)) (by have :=o.o;omega) (by have :=o.o;omega) o.2.2.1 o.2.2.2.1;have m:Hid ((Rg za P.size (Sb l2 f2 e2 m2 tx2)=false->R=.error (Ay fr))/\(Rg za P.size (Sb l2 f2 e2 m2 tx2)=true->R=R5 P (q (za+P.size))/\za+P.size<64)):=by
     rw[<-u.o];unfold G7;rw[Zj (by simp),hu];simp only[Bool.false_eq_true,if_false];rw[x,X];refine⟨λh=>by rw[Zo (sj.1 h)],λh=>?_⟩;have h':¬(p.length=0\/64<=za+p.length\/Sb l2 f2 e2 m2 tx2=false):=λk=>by rw[sj.2 k]at h;cases h
     rw[Zj h'];exact⟨rfl,by omega⟩
    have ak:=Wj za P.size (by have :=o.o;omega);obtain⟨n,hn⟩:=nm (za+P.size);rw[hn]at ak m;clear G hu u F x X hn;go_wp2_with fail
    refine(H _ (Zb _ _)).mono ?_;rintro e M ⟨rfl,a⟩;have i:=v.step a;have c:=Hq i;obtain⟨Z,y1,y2,y3,y4⟩:=qe i.box;have U:=(Zc (a.block g b.2)).trans (b.1 0 _ rfl);have z1:=(Zc (a.block g b.2)).trans (b.1 1 _ rfl);have z2:=(Zc (a.block g b.2)).trans (b.1 2 _ rfl);have z3:=(Zc (a.block g b.2)).trans (b.1 3 _ rfl);have z4:=(Zc (a.block g b.2)).trans (b.1 4 _ rfl);obtain⟨y,c1,c2,z,B,C,D,E⟩:=Wg i.ft;clear a i N O Q S T L H;cases hlb:Rg za P.size (Sb l2 f2 e2 m2 tx2)with
    |false=>
     have f:=Hq (m.1 hlb);clear hlb;go_wp2_with fail
     refine(s _).mono ?_;rintro e w3 ⟨rfl,l⟩;have j:=Hq (c.step l);obtain⟨y,c1,c2,z,B,C,D,E⟩:=Wg j.ft;clear l Z y1 y2 y3 y4 U z1 z2 z3 z4;go_wp2;rw[f.o];exact j.ret 8 0 0 fr rfl
    |true=>
     have f:=Hq (m.2 hlb);clear hlb;cases l2 with
     |false=>
      have al:Hid (∃t,R=.ok t):=by obtain⟨t,J⟩:=ao rfl n;rw[f.1,J];exact⟨_,rfl⟩
      go_wp2;obtain⟨t,J⟩:=al.o;rw[J];exact c.ret 0 0 0 0 rfl
     |true=>
      have am:=Hq (HN n M f.2 rfl c.below);have ac:Hid (Td R=Td (q n)):=by rw[f.1];cases q n<;>exact rfl
      go_wp2_with fail
      refine am.mono ?_;rintro e w3 ⟨rfl,l⟩;have j:=Hq (c.step l);obtain⟨y,c1,c2,z,B,C,D,E⟩:=Wg j.ft;clear l Z y1 y2 y3 y4 U z1 z2 z3 z4;obtain⟨V,a4,ha⟩:∃V a4:Nat,Td (q n)=Ki V 0 0 a4:=by
       cases q n with
       |ok t=>exact⟨0,0,rfl⟩
       |error er=>exact⟨8,er.at_,rfl⟩
      rw[ha]at ac⊢;go_wp2;have hQ:Hh R w=λe w'=>e=na (Ki V 0 0 a4)/\Ba w w':=by funext e w';unfold Hh;rw[ac.o]
      rw[hQ];exact j.ret V 0 0 a4 rfl
end
end
section
variable{w:Fa}
theorem Dk.UC{W:Fa}{a:Array Value}(h:Dk w a W){tmps:Array Value}{o:Obj}(e1 e2 e3 e4:Nat)(hp:tmps.getD 4 undef=Qa (some ⟨w.heap.size+1,0,none⟩)):bodyPost oa f147 (λe w'=>e=na (Ki e1 e2 e3 e4)/\Ba w w') .ret ⟨tmps,[]⟩ (World.alloc ((((W.setCell ⟨w.heap.size+1,0,none⟩ (Ia ka (e1:Int))).setCell ⟨w.heap.size+1,1,none⟩ (Ia ka (e2:Int))).setCell ⟨w.heap.size+1,2,none⟩ (Ia ka (e3:Int))).setCell ⟨w.heap.size+1,3,none⟩ (Ia ka (e4:Int))) o):=by have b:=rn h.ft (Ia ka (e1:Int)) (Ia ka (e2:Int)) (Ia ka (e3:Int)) (Ia ka (e4:Int));have d:Ba w ((((W.setCell ⟨w.heap.size+1,0,none⟩ (Ia ka (e1:Int))).setCell ⟨w.heap.size+1,1,none⟩ (Ia ka (e2:Int))).setCell ⟨w.heap.size+1,2,none⟩ (Ia ka (e3:Int))).setCell ⟨w.heap.size+1,3,none⟩ (Ia ka (e4:Int))):=(((h.below.setCell (p:=⟨w.heap.size+1,0,none⟩) (Nat.le_succ _) _).setCell (p:=⟨w.heap.size+1,1,none⟩) (Nat.le_succ _) _).setCell (p:=⟨w.heap.size+1,2,none⟩) (Nat.le_succ _) _).setCell (p:=⟨w.heap.size+1,3,none⟩) (Nat.le_succ _) _;generalize ((((W.setCell ⟨w.heap.size+1,0,none⟩ (Ia ka (e1:Int))).setCell ⟨w.heap.size+1,1,none⟩ (Ia ka (e2:Int))).setCell ⟨w.heap.size+1,2,none⟩ (Ia ka (e3:Int))).setCell ⟨w.heap.size+1,3,none⟩ (Ia ka (e4:Int)))=X at b d⊢;have c:Ba X (X.alloc o):=(Zb _ _).alloc (Za _) _;exact Zv (v:=Ki e1 e2 e3 e4) (oA results147 hp (Wi ((c.block _ (Zg.1 b).1).trans b))) rfl ⟨rfl,d.va c⟩
def Uk:Except Er (List Nd)->Value
 | .ok _=>Ki 0 0 0 0
 | .error er=>Ki 8 0 0 er.at_
section
variable{rd:It->Nat->Except Er Nd}{d:Nat}{x:It}{xs:List It}
theorem mK(h:x.So=false):Uk (Kw rd d (x::xs))=Uk (Kw rd d xs):=by
 rw[Kw];cases x with
 |list a b l=>cases h
 |text a b s=>
  split;.cases Kw rd d xs<;>rfl
  .rw[Nw];cases Kw rd d xs<;>rfl
theorem OU{er:Er}(h:x.So=true)(hr:rd x d=.error er):Uk (Kw rd d (x::xs))=Ki 8 0 0 er.at_:=by
 rw[Kw];cases x with
 |text a b s=>cases h
 |list a b l=>rw[Zj (by simp[It.pd]),Nw,hr];rfl
theorem JJ{t:Nd}(h:x.So=true)(hr:rd x d=.ok t):Uk (Kw rd d (x::xs))=Uk (Kw rd d xs):=by
 rw[Kw];cases x with
 |text a b s=>cases h
 |list a b l=>rw[Zj (by simp[It.pd]),Nw,hr];cases Kw rd d xs<;>rfl
end
section
variable{w:Fa}(fr en:Nat)(tx0:Da)(g cap:Nat)(es:List El)(its:List It)(za:Nat)
theorem IJ(rd:It->Nat->Except Er Nd)(hl:es.length=17)(hli:its.length=17)(hr:Qi w g es)(hb:∀i (hi:i<es.length),es[i].fr<=es[i].ra/\es[i].ra<=2048)(hfk:Nz es=Pu its)(hll:∀i (h1:i<es.length) (h2:i<its.length),es[i].mc=its[i].So)(hdep:za<=64)(hN:∀i (h1:i<es.length) (h2:i<its.length) W,Ba w W->es[i].mc=true->za<64->Calls oa 147 #[Aa es[i],Ia ka ((za+1:Nat):Int)] W (Hh (rd its[i] (za+1)) W)):Calls oa 147 #[Sa #[Oa true,La tx0,Ma (some ⟨g,0,none⟩) 17 cap,Ia ka (fr:Int),Ia ka (en:Int)],Ia ka (za:Int)] w (Hh (Pv rd fr its za) w):=by
 have HW:=Hq (Dk.start w #[Oa true,La tx0,Ma (some ⟨g,0,none⟩) 17 cap,Ia ka (fr:Int),Ia ka (en:Int)]);have ae:Hid (∀W,Calls oa 185 #[Sa #[Oa true,La tx0,Ma (some ⟨g,0,none⟩) 17 cap,Ia ka (fr:Int),Ia ka (en:Int)]] W λe w'=>e=na (Ki 8 0 0 fr)/\Ba W w'):=λW=>PA fr en true tx0 _ 17 cap W;have B:Hid (∀W,Ba w W->Calls oa 188 #[Sa #[Oa true,La tx0,Ma (some ⟨g,0,none⟩) 17 cap,Ia ka (fr:Int),Ia ka (en:Int)],Ia ka (za:Int)] W λe w'=>e=na (Oa (decide (za<=63)&&Nz es))/\Ba W w'):=λW a=>VK fr en tx0 g cap za es hl (hr.below a) hb;obtain⟨bb,G⟩:=nm ((decide (za<=63)&&Nz es));rw[G]at B;obtain⟨R,hR⟩:=nm (Pv rd fr its za);rw[hR];have L:Hid ((bb=false->R=.error (Ay fr))/\(bb=true->za<64/\Uk (Kw rd (za+1) (its.take 16))=Td R)):=by
  rw[<-G,hfk,<-hR];unfold Pv;refine⟨λh=>?_,λh=>?_⟩
  .rw[Zo];by_cases ak:64<=za;.exact .inl ak
   .right;rw[Z5 (show za<=63 by omega)]at h;simpa using h
  .simp only[X5,Jw]at h;rw[Zj (λk=>by
    rcases k with k|k;.omega
    .rw[h.2]at k;cases k)]
   refine⟨by omega,?_⟩;cases Kw rd (za+1) (its.take 16)<;>rfl
 have N:Hid (es.length=17/\its.length=17/\Qi w g es/\za<=64):=⟨hl,hli,hr,hdep⟩;have ai:=Hq hll;have HN:=Hq hN;have I:=Wj za 1 (by omega);have Y:wrap64 ((za:Int)+1)=((za+1:Nat):Int):=I;obtain⟨n,hn⟩:=nm (za+1);rw[hn]at Y L HN;clear hl hli hr hb hfk hll hdep hN G hR I hn;go_enter func147,ntmps147;go_wp2_with fail
 refine(B _ HW.below).mono ?_;rintro e w1 ⟨rfl,ag⟩;have E:=Hq (HW.step ag);clear ag B HW;cases bb with
 |false=>
  obtain⟨Z,x1,x2,x3,x4⟩:=qe E.box;have u:=Hq (L.1 rfl);go_wp2_with fail
  refine(ae _).mono ?_;rintro e K ⟨rfl,b⟩;have v:=Hq (E.step b);obtain⟨O,P,Q,S,T,U,V,X⟩:=Wg v.ft;clear b Z x1 x2 x3 x4;go_wp2;rw[u.o];exact v.ret 8 0 0 fr rfl
 |true=>
  have u:=Hq (L.2 rfl);clear L ae;go_wp2;go_loopg [10] 16 (λgh i wr=>∃k,k<=16/\gh=16-k/\i=Ia ka ((k:Nat):Int)/\Dk w #[Oa true,La tx0,Ma (some ⟨g,0,none⟩) 17 cap,Ia ka (fr:Int),Ia ka (en:Int)] wr/\Uk (Kw rd n ((its.take 16).drop k))=Td R)
  case atStart=>exact⟨0,Xa _,rfl,rfl,E.o,by rw[Yx];exact u.2⟩
  case round=>
   obtain⟨k,hk,rfl,rfl,a,j⟩:=hrel;obtain⟨Z,x1,x2,x3,x4⟩:=qe a.box;obtain⟨O,P,Q,S,T,U,V,X⟩:=Wg a.ft;by_cases z:k<16
   .have s:k<es.length:=by rw[N.1];omega
    have y:k<its.length:=by rw[N.2.1];omega
    have i1:(k:Int)<16:=by omega
    have ao:(k:Int)<17:=by omega
    obtain⟨f,e,l,tx,p,m,c,he,r0,r1,r2,r3,r4⟩:=(N.2.2.1.below a.below).at s;have hd:=ZH N.2.1 z;rw[hd]at j;have q:=ai k s y;have r:=HN k s y;rw[he]at q r;obtain⟨xk,J⟩:=nm its[k];rw[J]at j q r;have o:=q;cases l with
    |false=>
     rw[mK o.symm]at j;have d:=Hq a;have M:=Hq j;clear a j hk z J s y he hd q r o;go_wp2;go_roundg (16-(k+1))
     case measure=>omega
     case rel=>exact⟨k+1,by omega,rfl,rfl,d.o,M.o⟩
    |true=>
     obtain⟨qq,H⟩:=nm (rd xk n);have C:=Hq (r wr a.below rfl u.1);rw[H]at C;have d:=Hq a;have ac:=Hq o.symm;have HQ:=Hq H;have M:=Hq j;clear a j hk z J hd s y he q r o H;go_wp2_with fail
     refine C.mono ?_;rintro e K ⟨rfl,b⟩;clear C;cases qq with
     |error er=>
      have D:=Hq (M.symm.trans (OU ac HQ.o));have F:Td (.error er:Except Er Nd)=Ki 8 0 0 er.at_:=rfl;have x:=d.step b;have v:=Hq x;have al:=x.lt.2;have am:¬w.heap.size+1=K.heap.size:=by omega
      rw[F];clear O P Q S T U V X;obtain⟨O,P,Q,S,T,U,V,X⟩:=Wg x.ft;clear b F x Z x1 x2 x3 x4 r0 r1 r2 r3 r4;go_wp2;have hQ:Hh R w=λe w'=>e=na (Ki 8 0 0 er.at_)/\Ba w w':=by funext e w';unfold Hh;rw[D.o]
      rw[hQ];exact v.UC 8 0 0 er.at_ rfl
     |ok t=>
      have D:=Hq ((JJ ac HQ.o).symm.trans M.o);have F:Td (.ok t:Except Er Nd)=Ki 0 0 0 0:=rfl;have ah:Ba K (K.alloc (ma #[Ia ka 0,Ia ka 0,Ia ka 0,Ia ka 0] 91)):=(Zb _ _).alloc (Za _) _;have aj:=Hq ((d.step b).step ah);rw[F];clear b ah F Z x1 x2 x3 x4 O P Q S T U V X r0 r1 r2 r3 r4;go_wp2;go_roundg (16-(k+1))
      case measure=>omega
      case rel=>exact⟨k+1,by omega,rfl,rfl,aj.o,D.o⟩
   .obtain rfl:k=16:=by omega
    have D:Hid (Td R=Ki 0 0 0 0):=by rw[<-j,Xw (by rw[Zx];omega)];exact rfl
    have d:=Hq a;clear a j hk z;go_wp2;have hQ:Hh R w=λe w'=>e=na (Ki 0 0 0 0)/\Ba w w':=by funext e w';unfold Hh;rw[D.o]
    rw[hQ];exact d.ret 0 0 0 0 rfl
end
section
variable{enc:El->List Value}{n:Nat}{w:Fa}{F:Nat->Prop}{e:El}{x:It}
theorem zk(h:Tree enc kP n w F e x):(e.mc=false/\e.sub=Ma none 0 0/\x=.text e.fr e.ra (Ke e.text))\/(e.mc=true/\∃p c,∃l:List It,e.sub=Ma p l.length c/\x=.list e.fr e.ra l):=by
 cases n with
 |zero=>exact .inl ⟨h.1.1,h.1.2,h.2⟩
 |succ n=>
  rcases h with h|⟨h1,ps,h2,h3,h4,h5⟩;.exact .inl ⟨h.1.1,h.1.2,h.2⟩
  .refine .inr ⟨h1,?_⟩;rcases h2 with⟨e1,e2,_⟩|⟨g,cap,e1,_⟩;.exact⟨none,0,_,by rw[e1,Zl,e2],h5⟩
   .exact⟨_,cap,_,by rw[e1,Zl],h5⟩
theorem rI(h:Tree enc kP n w F e x):e.mc=x.So:=by rcases zk h with⟨h1,_,rfl⟩|⟨h1,_,_,l,_,rfl⟩<;>exact h1
theorem mI(h:Tree enc kP n w F e x):e.pd=x.pd:=by
 rcases zk h with⟨h1,_,rfl⟩|⟨h1,_,_,l,_,rfl⟩;.simp[El.pd,It.pd,h1,ta]
 .simp[El.pd,It.pd,h1]
theorem qS(h:Tree enc kP n w F e x):e.ref=x.Sf:=by
 rcases zk h with⟨h1,_,rfl⟩|⟨h1,_,_,l,_,rfl⟩;.simp[El.ref,It.Sf,h1,ta]
 .simp[El.ref,It.Sf,h1]
theorem MJ(h:Tree enc kP n w F e x){p:Option Addr}{m c:Nat}(hs:e.sub=Ma p m c):Sb e.mc e.fr e.ra m e.text=x.Sb:=by
 rcases zk h with⟨h1,_,rfl⟩|⟨h1,_,_,l,h2,rfl⟩;.simp[Sb,It.Sb,h1,ta]
 .rw[h2]at hs;simp only[Z3]at hs;simp[Sb,It.Sb,h1,hs.2.1]
theorem uy(h:Tree enc kP n w F e x){N:Nat}(hg:x.Md N):e.fr<=e.ra/\e.ra<=N/\(e.mc=false->e.text.size<=N):=by
 rcases zk h with⟨h1,_,rfl⟩|⟨h1,_,_,l,h2,rfl⟩;.rw[It.Md]at hg;refine⟨hg.1,hg.2.1,λ_=>?_⟩;have :=(mw (Ke e.text)).2;rw[ta]at this;omega
 .rw[It.Md]at hg;exact⟨hg.1,hg.2.1,λa=>by rw[h1]at a;cases a⟩
theorem zJ(h:Tree enc kP n w F e x)(hl:e.mc=true):e.text=Kg []:=by
 cases n with
 |zero=>have :=h.1.1;rw[hl]at this;cases this
 |succ n=>
  rcases h with h|⟨_,_,_,_,h,_⟩;.have :=h.1.1;rw[hl]at this;cases this
  .exact h
end
variable{enc:El->List Value}{F:Nat->Prop}{p:Option Addr}
theorem wR{n1 n2:Nat}{e1 e2:El}{a b:It}(ha:Tree enc kP n1 w F e1 a)(hb:Tree enc kP n2 w F e2 b){m c:Nat}(hs:e2.sub=Ma p m c)(rd:It->Nat->Except Er Nd)(fr za:Nat):G7 fr za e1.mc e1.text e2.mc e2.fr e2.ra m e2.text (λd=>Nw rd b d)=Gw rd fr a b za:=by
 have f:=MJ hb hs;unfold G7 Gw;rcases zk ha with⟨h1,_,rfl⟩|⟨h1,_,_,l,h2,rfl⟩
 .rw[Zj (by rw[h1];simp)];simp only;cases K6 (Ke e1.text)with
  |none=>rfl
  |some q=>
   obtain⟨p,e⟩:=q;simp only;cases e with
   |false=>
    rw[Zj (show ¬(false=true)by simp),Zj (show ¬(false=true)by simp),f];unfold Pm;split;.rfl
    .cases Nw rd b (za+p.length)<;>rfl
   |true=>
    rw[Zo rfl,Zo rfl];rcases zk hb with⟨k1,_,rfl⟩|⟨k1,_,_,l,k2,rfl⟩;.rw[k1];simp[It.val?,It.bytes,ta,Wm]
    .rw[k1];simp[It.val?]
 .rw[Zo h1]
variable{ps:List (El×It)}
theorem oP{n:Nat}(h:∀p∈ps,Tree enc kP n w F p.1 p.2):Nz (ps.map (·.1))=Pu (ps.map (·.2)):=by
 have k:∀(l:List (El×It)),(∀p∈l,Tree enc kP n w F p.1 p.2)->(l.map (·.1)).all (λx=>x.ref||x.pd)=(l.map (·.2)).all (λx=>x.Sf||x.pd)/\((l.map (·.1)).filter El.ref).length=((l.map (·.2)).filter It.Sf).length/\(l.map (·.1)).all El.pd=(l.map (·.2)).all It.pd:=by
  intro l;induction l with
  |nil=>intro _;simp
  |cons q l ih=>intro h;obtain⟨g,i,j⟩:=ih λp a=>h p (Yy _ a);have b:=mI (h q (Yj ..));have c:=qS (h q (Yj ..));refine⟨by simp only[Xm,List.all_cons,b,c,g],?_,by simp only[Xm,List.all_cons,b,j]⟩;simp only[Xm,J8,c];split<;>simp[i]
 unfold Nz Pu Gd;rw[<-J7,<-J7,<-J6,<-J6];obtain⟨d,e,_⟩:=k (ps.take 16) λp a=>h p (Y4 a);obtain⟨_,_,f⟩:=k (ps.drop 16) λp a=>h p (Yu a);rw[d,e,f]
theorem Dz{v:Value}{n:Nat}(h:re w F v ps.length (ps.flatMap λp=>Ni p.1))(hp:0<ps.length)(hT:∀p∈ps,Tree Ni kP n w F p.1 p.2):∃g cap,v=Ma (some ⟨g,0,none⟩) ps.length cap/\ps.length<=cap/\Qi w g (ps.map (·.1)):=by
 obtain⟨g,cap,b,d,j,e,k,f⟩:=h.cells (size:=5) (λ_=>rfl) hp;refine⟨g,cap,b,d,e,λi a=>?_⟩;rw[Zl]at a;simp only[Xf];refine⟨f i a,?_⟩;rcases zk (hT _ (Zy a))with⟨_,h,_⟩|⟨_,p,c,l,h,_⟩;.exact⟨_,_,_,h⟩
 .exact⟨_,_,_,h⟩
theorem wt(e:El){m c:Nat}(h:e.sub=Ma p m c):Aa e=Sa #[Oa e.mc,La e.text,Ma p m c,Ia ka (e.fr:Int),Ia ka (e.ra:Int)]:=by unfold Aa;rw[h]
theorem fF:∀(n:Nat) (w:Fa) (F:Nat->Prop) (e:El) (x:It) (za:Nat),Tree Ni kP n w F e x->x.Md 2048->za<=64->Calls oa 147 #[Aa e,Ia ka (za:Int)] w (Hh (N9 n x za) w)
 |0,w,F,e,x,za,hT,hg,hd=>by
  rcases zk hT with⟨h1,h2,rfl⟩|⟨h1,p,c,l,h2,rfl⟩;.rw[wt e h2,h1];exact fA e.fr e.ra e.text za false none 0 0 (by simp)
  .have :=hT.1.1;rw[h1]at this;cases this
 |n+1,w,F,e,x,za,hT,hg,hd=>by
  have ih:=fF n;rcases hT with⟨⟨h1,h2⟩,h3⟩|⟨h1,ps,hrow,hsub,h4,rfl⟩;.have h3':=h3;subst h3';rw[wt e h2,h1,N9];exact fA e.fr e.ra e.text za false none 0 0 (by simp)
  .rw[N9];rw[It.Md]at hg;obtain⟨_,_,_,hgs⟩:=hg;have hgi:∀q∈ps,q.2.Md 2048:=λq hq=>Me.1 hgs _ (V7 hq);by_cases h2:ps.length=2
   .obtain⟨g,cap,e1,e2,hr5⟩:=Dz hrow (by omega) hsub;match ps,h2 with
    | [a,b],_=>
     rw[wt e e1,h1];show Calls _ _ _ _ (Hh (Gw (N9 n) e.fr a.2 b.2 za) w);obtain⟨r1,p1,m1,c1,s1⟩:=hr5.2 0 (by simp);obtain⟨r2,p2,m2,c2,s2⟩:=hr5.2 1 (by simp);have hTa:=hsub a (by simp);have hTb:=hsub b (by simp);have hga:=uy hTa (hgi a (by simp));have hgb:=uy hTb (hgi b (by simp));have s2':=s2;have s1':=s1;rw[<-wR hTa hTb s2' (N9 n) e.fr za];have r1':w.rangeAt g 0 [Oa a.1.mc,La a.1.text,Ma p1 m1 c1,Ia ka (a.1.fr:Int),Ia ka (a.1.ra:Int)]:=by have k:=r1;unfold Ni at k;rw[s1']at k;exact k
     have B:w.rangeAt g 5 [Oa b.1.mc,La b.1.text,Ma p2 m2 c2,Ia ka (b.1.fr:Int),Ia ka (b.1.ra:Int)]:=by have o:=r2;unfold Ni at o;rw[s2']at o;exact o
     have z:a.1.text.size<=2048:=by
      cases hta:a.1.mc with
      |true=>rw[zJ hTa hta,me];simp
      |false=>exact hga.2.2 hta
     refine QQ e.fr e.ra e.text g cap a.1.fr a.1.ra a.1.mc a.1.text p1 m1 c1 b.1.fr b.1.ra b.1.mc b.1.text p2 m2 c2 za hr5.1 r1' B z hd hgb.1 hgb.2.1 _ (λj d=>?_) λd W v j s=>?_
     .rcases zk hTb with⟨h,r,k3⟩|⟨h,p',c',l,r,k3⟩;.rw[k3];exact⟨_,rfl⟩
      .rw[h]at j;cases j
     .have u:=ih W F b.1 b.2 d (hTb.below s) (hgi b (by simp)) (by omega);rw[wt b.1 s2']at u;rcases zk hTb with⟨h,r,k3⟩|⟨h,p',c',l,r,k3⟩;.rw[h]at j;cases j
      .have C:Nw (N9 n) b.2 d=N9 n b.2 d:=by rw[k3];rfl
       rw[C];exact u
   .show Calls _ _ _ _ (Hh (To (N9 n) e.fr (ps.map (·.2)) za) w);rw[vm (by rw[Zl];exact h2),Zl];by_cases f:ps.length=17
    .rw[Zo f];obtain⟨g,cap,e1,e2,hr5⟩:=Dz hrow (by omega) hsub;rw[f]at e1 e2;rw[wt e e1,h1];refine IJ e.fr e.ra e.text g cap (ps.map (·.1)) (ps.map (·.2)) za (N9 n) (by rw[Zl,f]) (by rw[Zl,f]) hr5 (λi t=>?_) (oP hsub) (λi h1 h2=>?_) hd (λi h r W s j v=>?_);.rw[Zl]at t;simp only[Xf];have :=uy (hsub _ (Zy t)) (hgi _ (Zy t));exact⟨this.1,this.2.1⟩
     .rw[Zl]at h1;simp only[Xf];exact rI (hsub _ (Zy h1))
     .rw[Zl]at h;simp only[Xf]at j⊢;exact ih W F _ _ (za+1) ((hsub _ (Zy h)).below s) (hgi _ (Zy h)) (by omega)
    .rw[Zj f];have y:∃p m c,e.sub=Ma p m c/\m=ps.length:=by
      rcases hrow with⟨e1,e2,_⟩|⟨g,cap,e1,_⟩;.exact⟨_,_,_,e1,e2.symm⟩
      .exact⟨_,_,_,e1,rfl⟩
     obtain⟨p,m,c,E,D⟩:=y;rw[wt e E,h1];exact fA e.fr e.ra e.text za true p m c λ_=>by rw[D];exact⟨h2,f⟩
end
section
abbrev N3(e:El)(r:Da)(ov fd:Bool)(v:Da):List Value:=[Oa e.mc,La e.text,e.sub,Ia ka (e.fr:Int),Ia ka (e.ra:Int),La r,Oa ov,Oa fd,La v]
abbrev Ns:El:=⟨0,0,false,⟨#[]⟩,Ma none 0 0⟩
abbrev Rh(e:El)(r:Da)(ov fd:Bool)(v:Da):Value:=Sa (N3 e r ov fd v).toArray
theorem qo(e:El)(r:Da)(ov fd:Bool)(v:Da):(oa.info? 169).map (·.size)=some (N3 e r ov fd v).length:=by
 have :(oa.info? 169).map (·.size)=some 9:=by kernel_rfl
 exact this
theorem kp{e:El}(h:∃p m c,e.sub=Ma p m c)(r:Da)(ov fd:Bool)(v:Da):(N3 e r ov fd v).toArray.all (·.oneCell')=true:=by obtain⟨p,m,c,h⟩:=h;simp[N3,h,Value.oneCell']
def Eb(s:Sw)(n:Nat)(F:Nat->Prop)(w:Fa)(e:Ending)(w':Fa):Prop:=Ba w w'/\∃(x:El) (r:Da) (ov fd:Bool) (v:Da),e=na (Rh x r ov fd v)/\(∃p m c,x.sub=Ma p m c)/\
  match s with
  | .over o=>ov=true/\fd=o.isSome/\v=o.getD ⟨#[]⟩
  | .on y r'=>ov=false/\fd=false/\v=⟨#[]⟩/\r=r'/\Tree Ni kP n w' F x y
structure Cl(w:Fa)(a b:Array Value)(W:Fa):Prop where
 below:Ba w W
 box:W.heap[w.heap.size]? =some (ma a 169 (0,0))
 Qd:W.there (w.heap.size+1) 0 9
 item:W.heap[w.heap.size+2]? =some (ma b 152 (0,0))
theorem Cl.step{w W W':Fa}{a b:Array Value}(h:Cl w a b W)(hb:Ba W W'):Cl w a b W':=by have c:=(Zg.1 h.item).1;exact⟨h.below.va hb,(hb.block _ (by omega)).trans h.box,ve h.Qd (hb.block _ (by omega)),(hb.block _ c).trans h.item⟩
theorem Cl.start(w:Fa)(a b:Array Value)(z:Array Value)(hz:z.size=9):Cl w a b (((w.alloc (ma a 169)).alloc (ma z 169)).alloc (ma b 152)):=by
 have k:Ba w (w.alloc (ma a 169)):=(Zb _ _).alloc (Za _) _;obtain⟨c,e⟩:=nm (w.alloc (ma a 169));have m:c.heap[w.heap.size]? =some (ma a 169 (0,0)):=by rw[<-e];exact Z6
 have l:c.heap.size=w.heap.size+1:=by rw[<-e];simp
 rw[e]at k⊢;have g:Ba c (c.alloc (ma z 169)):=(Zb _ _).alloc (Za _) _;have i:=Le c z 169 9 hz.symm;obtain⟨d,f⟩:=nm (c.alloc (ma z 169));have n:d.heap.size=w.heap.size+2:=by rw[<-f];simp[l]
 rw[f]at g i⊢;have h:Ba d (d.alloc (ma b 152)):=(Zb _ _).alloc (Za _) _;have j:(d.alloc (ma b 152)).heap[d.heap.size]? =some (ma b 152 (0,0)):=Z6;rw[n]at j;rw[l]at i;exact⟨(k.va g).va h,((g.trans (h.mono (by omega))).block _ (by omega)).trans m,ve i (h.block _ (by omega)),j⟩
theorem Cl.ret{w W:Fa}{a b:Array Value}(h:Cl w a b W){tmps:Array Value}{s:Sw}{n:Nat}{F:Nat->Prop}{x:El}{r:Da}{ov fd:Bool}{v:Da}(hx:∃p m c,x.sub=Ma p m c)(hp:tmps.getD 2 undef=Qa (some ⟨w.heap.size+1,0,none⟩))(hs:match s with | .over o=>ov=true/\fd=o.isSome/\v=o.getD ⟨#[]⟩| .on y r'=>ov=false/\fd=false/\v=⟨#[]⟩/\r=r'/\Tree Ni kP n (W.setCells (w.heap.size+1) 0 (N3 x r ov fd v)) F x y):bodyPost oa f96 (Eb s n F w) .ret ⟨tmps,[]⟩ (W.setCells (w.heap.size+1) 0 (N3 x r ov fd v)):=Zv (v:=Rh x r ov fd v) (si results96 tmps _ _ (w.heap.size+1) 0 hp (Yg _ _ _ 169 _ _ (Zn _ _ _ (N3 x r ov fd v) h.Qd) underlying169 rfl (qo x r ov fd v))) rfl ⟨Cg h.below (by omega) _ _,x,r,ov,fd,v,rfl,hx,hs⟩
theorem SD{n:Nat}{w:Fa}{F:Nat->Prop}{e:El}{x:It}{b:Nat}(h:Tree Ni kP n w F e x)(hb:¬F b)(o:Nat)(l:List Value):Tree Ni kP n (w.setCells b o l) F e x:=h.Cb (λ_ k=>k) (Jq (Og b l o w).1.symm) λ_ hk _=>Qf _ _ _ _ _ λe=>hb (e▸hk)
end
section
theorem XP{a b:Da}(h:a≠b):(a.toList==b.toList)=false:=by rw[Xe];intro e;rw[Vn,Vn]at e;obtain⟨⟨x⟩⟩:=a;obtain⟨⟨y⟩⟩:=b;exact h (by simp at e;rw[e])
def Ej(p:List Nat)(leaf:Bool)(b:El)(y:It)(r:Da):Sw:=if leaf=true then .over (if Kg p=r then some b.text else none)else if K7 (Kg p) r then .on y (r.extract p.length r.size)else .over none
theorem BP{n:Nat}{F:Nat->Prop}{w:Fa}(fr en:Nat)(tx0:Da)(g cap:Nat)(f1 e1:Nat)(l1:Bool)(tx1:Da)(p1:Option Addr)(m1 c1:Nat)(fb eb:Nat)(lb:Bool)(tb:Da)(p2:Option Addr)(m2 c2:Nat)(y:It)(r:Da){p:List Nat}{leaf:Bool}(hu:K6 (Ke tx1)=some (p,leaf))(ht1:tx1.size<=2048)(hgs:g<w.heap.size)(hrow1:w.rangeAt g 0 [Oa l1,La tx1,Ma p1 m1 c1,Ia ka (f1:Int),Ia ka (e1:Int)])(hrow:w.rangeAt g 5 [Oa lb,La tb,Ma p2 m2 c2,Ia ka (fb:Int),Ia ka (eb:Int)])(hT:Tree Ni kP n w F ⟨fb,eb,lb,tb,Ma p2 m2 c2⟩ y):Calls oa 96 #[Rh ⟨fr,en,true,tx0,Ma (some ⟨g,0,none⟩) 2 cap⟩ r false false ⟨#[]⟩] w (Eb (Ej p leaf ⟨fb,eb,lb,tb,Ma p2 m2 c2⟩ y r) n F w):=by
 have s1:=hrow1 1 _ rfl;have S:¬g=w.heap.size:=by omega
 have I:¬g=w.heap.size+1:=by omega
 have J:¬g=w.heap.size+1+1:=by omega
 have K:¬g=w.heap.size+2:=by omega
 have L:g<w.heap.size+1:=by omega
 have M:g<w.heap.size+2:=by omega
 have O:=Hq (Cl.start w (N3 ⟨fr,en,true,tx0,Ma (some ⟨g,0,none⟩) 2 cap⟩ r false false ⟨#[]⟩).toArray #[Oa true,La tx0,Ma (some ⟨g,0,none⟩) 2 cap,Ia ka (fr:Int),Ia ka (en:Int)] (N3 Ns ⟨#[]⟩ false false ⟨#[]⟩).toArray rfl);have E:=Hq (λW=>(YI tx1 W (by omega)).mono λe w' h=>(⟨h.1.1 p leaf hu,h.2⟩:e=_/\Ba W w'));have a:=Hq (A4 hgs hrow hT (me p));obtain⟨P,H⟩:=nm (Kg p);have t:=Hq H;rw[H]at E;clear hrow hrow1 ht1 hT hu H;go_enter func96,ntmps96;go_wp2_with fail
 refine(E _).mono ?_;rintro e w1 ⟨rfl,D⟩;have c:=O.step D;have v:=Hq c;have X:w1.cell? ⟨w.heap.size,5,none⟩=some (La r):=by simp[World.cell?,c.box]
 obtain⟨x0,x1,x2,x3,x4⟩:=qe c.item;have q0:=(Zc (c.below.block g a.1)).trans (a.2.1 0 _ rfl);have q1:=(Zc (c.below.block g a.1)).trans (a.2.1 1 _ rfl);have q2:=(Zc (c.below.block g a.1)).trans (a.2.1 2 _ rfl);have q3:=(Zc (c.below.block g a.1)).trans (a.2.1 3 _ rfl);have q4:=(Zc (c.below.block g a.1)).trans (a.2.1 4 _ rfl);have q:=c.Qd;have U:=qo Ns ⟨#[]⟩ true true tb;clear D c s1 S I J K hgs L M E O;cases leaf with
 |true=>
  by_cases G:P=r
  .subst G;have j:Hid (Ej p true ⟨fb,eb,lb,tb,Ma p2 m2 c2⟩ y P=.over (some tb)):=by unfold Ej;rw[Zo rfl,t.o,Zo rfl];exact rfl
   have b:=kp (e:=Ns) ⟨_,_,_,rfl⟩ ⟨#[]⟩ true true tb;go_wp2_with (refine Zs rfl 169 _ _ rfl (w.heap.size+1) 0 (N3 Ns ⟨#[]⟩ true true tb).toArray rfl rfl q U b ?_)
   rw[j.o];exact v.ret ⟨_,_,_,rfl⟩ rfl ⟨rfl,rfl,rfl⟩
  .have j:Hid (Ej p true ⟨fb,eb,lb,tb,Ma p2 m2 c2⟩ y r=.over none):=by unfold Ej;rw[Zo rfl,t.o,Zj G];exact rfl
   have b:=kp (e:=Ns) ⟨_,_,_,rfl⟩ ⟨#[]⟩ true false ⟨#[]⟩;have hd:=XP G;go_wp2_with (refine Zs rfl 169 _ _ rfl (w.heap.size+1) 0 (N3 Ns ⟨#[]⟩ true false ⟨#[]⟩).toArray rfl rfl q (qo Ns ⟨#[]⟩ true false ⟨#[]⟩) b ?_)
   rw[j.o];exact v.ret ⟨_,_,_,rfl⟩ rfl ⟨rfl,rfl,rfl⟩
 |false=>
  have s:=Hq (λW=>Cx r P W);go_wp2_with fail
  refine(s _).mono ?_;rintro e w2 ⟨rfl,rfl⟩;by_cases m:K7 P r
  .rw[Z5 m];have ae:=np m;have ac:(P.size:Int)<=(r.size:Int):=by omega
   obtain⟨x,T⟩:=nm (r.extract P.size r.size);have j:Hid (Ej p false ⟨fb,eb,lb,tb,Ma p2 m2 c2⟩ y r=.on y x):=by unfold Ej;rw[Zj (by simp),t.o,Zo m,<-a.2.2.2,t.o,T];exact rfl
   obtain⟨f,B⟩:=nm w2.drew;have d:Hid (Cl w (N3 ⟨fr,en,true,tx0,Ma (some ⟨g,0,none⟩) 2 cap⟩ r false false ⟨#[]⟩).toArray #[Oa true,La tx0,Ma (some ⟨g,0,none⟩) 2 cap,Ia ka (fr:Int),Ia ka (en:Int)] f):=by rw[<-B];exact v.step (Zb _ _).drew
   obtain⟨Q,u⟩:=nm (f.setCells (w.heap.size+1) 0 (N3 ⟨fb,eb,lb,tb,Ma p2 m2 c2⟩ x false false ⟨#[]⟩));have z:=Hq u;have V:Hid (∀W,W=f\/W=Q->W.cell? ⟨w.heap.size+2,2,none⟩=some (Ma (some ⟨g,0,none⟩) 2 cap)/\W.cell? ⟨w.heap.size,5,none⟩=some (La r)/\W.cell? ⟨g,5,none⟩=some (Oa lb)/\W.cell? ⟨g,6,none⟩=some (La tb)/\W.cell? ⟨g,7,none⟩=some (Ma p2 m2 c2)/\W.cell? ⟨g,8,none⟩=some (Ia ka (fb:Int))/\W.cell? ⟨g,9,none⟩=some (Ia ka (eb:Int))):=λW Y=>by
    have R:∀k,k≠w.heap.size+1->W.heap[k]? =f.heap[k]? :=λk N=>by
     rcases Y with rfl|rfl;.rfl
     .rw[<-u];exact Qf _ _ _ _ _ N
    have l:∀k,k≠w.heap.size+1->∀o,W.cell? ⟨k,o,none⟩=f.cell? ⟨k,o,none⟩:=λk N o=>Zc (R k N);have Z:=a.1;have i:=zc a.2.1 (d.below.block g Z);rw[l _ (by omega),l _ (by omega),l g (by omega),l g (by omega),l g (by omega),l g (by omega),l g (by omega)];exact⟨by simp[World.cell?,d.item],by simp[World.cell?,d.box],i 0 _ rfl,i 1 _ rfl,i 2 _ rfl,i 3 _ rfl,i 4 _ rfl⟩
   clear m s u X x0 x1 x2 x3 x4 q0 q1 q2 q3 q4 q U;go_upto_region 15 with fail
   obtain⟨d1,d2,d3,d4,d5,d6,d7⟩:=V f (.inl rfl);refine Wo 10 (C:=λW=>W=f) (by kernel_rfl) (by kernel_rfl) (by kernel_rfl) B ?_;simp only[Y7,Xr,Y6,Yx];iterate 10 (go_big_quiet_step (fail))
   refine X4 ?_;rintro f rfl;refine Zs rfl 169 _ _ rfl (w.heap.size+1) 0 #[Oa lb,La tb,Ma p2 m2 c2,Ia ka (fb:Int),Ia ka (eb:Int),La x,Oa false,Oa false,La ⟨#[]⟩] rfl rfl d.Qd (by kernel_rfl) (kp (e:=⟨fb,eb,lb,tb,Ma p2 m2 c2⟩) ⟨p2,m2,c2,rfl⟩ x false false ⟨#[]⟩) ?_;rw[show World.setCells f _ 0 _=Q from z.o];(try go_wp2);rw[j.o,<-z.o];exact d.ret ⟨_,_,_,rfl⟩ rfl ⟨rfl,rfl,rfl,rfl,a.2.2.1.below (Cg d.below (by omega) _ _)⟩
  .rw[Zt m];have j:Hid (Ej p false ⟨fb,eb,lb,tb,Ma p2 m2 c2⟩ y r=.over none):=by unfold Ej;rw[Zj (by simp),t.o,Zj m];exact rfl
   have b:=kp (e:=Ns) ⟨_,_,_,rfl⟩ ⟨#[]⟩ true false ⟨#[]⟩;clear m s;go_wp2_with (refine Zs rfl 169 _ _ rfl (w.heap.size+1) 0 (N3 Ns ⟨#[]⟩ true false ⟨#[]⟩).toArray rfl rfl q (qo Ns ⟨#[]⟩ true false ⟨#[]⟩) b ?_)
   rw[j.o];exact v.ret ⟨_,_,_,rfl⟩ rfl ⟨rfl,rfl,rfl⟩
end
end Go.Proofs.YtpfbdlnibdfcoaaGreatDoor
