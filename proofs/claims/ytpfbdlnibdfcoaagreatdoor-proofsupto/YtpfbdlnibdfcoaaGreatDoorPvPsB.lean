import Derived.Test.YtpfbdlnibdfcoaaGreatDoorPvPsA
import Derived.Test.YtpfbdlnibdfcoaaGreatDoorPvRvS
namespace Go.Proofs.YtpfbdlnibdfcoaaGreatDoor
open Go.RowKit Tryz
open Value renaming int->Ia,string->La,slice->Ma,bool->Oa,pointer->Qa,agg->Sa,tuple->Wa,iface->ca,nilIface->da
open IntKind renaming i64->ka
open Obj renaming cells->ma
open Ending renaming returned->na
open Tryz renaming prog->oa
set_option maxRecDepth 100000
set_option maxHeartbeats 0
section
def ki(C:Array Value)(o:Nat)(L:List Value):Prop:=∀j u,L[j]? =some u->C[o+j]? =some u
variable{C:Array Value}
theorem ki.new{o:Nat}{L:List Value}(h:ki C o L)(w:Fa)(t:TypeId):(w.alloc (ma C t)).rangeAt w.heap.size o L:=λj u hu=>by rw[Ze];exact h j u hu
structure U9(C:Array Value)(sl h ad:List Nat)(p1 p2:Option Addr)(n1 c1 n2 c2:Nat):Prop where
 size:C.size=160
 key:ki C 2 (sl.map Kf)
 hash:ki C 35 (h.map Kf)
 On:ki C 140 (ad.map Kf)
 l:C[69]? =some (Ma p1 n1 c1)
 m:C[70]? =some (Ma p2 n2 c2)
 sq:sl.length=32
 uj:h.length=32
 lq:ad.length=20
 qC:∀x∈sl,x<256
 Bm:∀x∈h,x<256
 RA:∀x∈ad,x<256
theorem zS{w:Fa}(sent:Nat->Addr)(h ad sl:List Nat)(l1 l2:List Da)(p1 p2:Option Addr)(c1 c2:Nat)(hE:Env w.heap.size sent w)(hTy:Ht w)(hTl:14<w.heap.size)(ho:U9 C sl h ad p1 p2 l1.length c1 l2.length c2)(hr1:Nf w p1 l1 c1)(hr2:Nf w p2 l2 c2)(hl1:l1.length<=1048576)(hl2:l2.length<=1048576):Calls oa 13 #[Sa C] w λe w'=>e=na (Oa true)/\Ba w w':=by
 have bi:=underlying39;have bf:=underlying37;have bc:=underlying48;have dt:(oa.info? 39).map (·.size)=some (h.map Kf).length:=oo ho.uj;have du:(oa.info? 37).map (·.size)=some (sl.map Kf).length:=by rw[qp];simp[ho.sq]
 have dr:(oa.info? 48).map (·.size)=some (ad.map Kf).length:=by rw[oH];simp[ho.lq]
 obtain⟨q,hq⟩:=nm (Ae h ad sl (l1.map Ke) (l2.map Ke));obtain⟨R,L,O,M,aw⟩:=pw q;obtain⟨S,hS⟩:=nm (Ng q);obtain⟨B,hB⟩:=nm (Nh q);have ar:Hid (∀W H I n1 n2,Ba w W->Ie W H l1->Ie W I l2->n1=l1.length+2->n2=l2.length+2->Calls oa 46 #[Sa (h.map Kf).toArray,Sa (ad.map Kf).toArray,Sa (sl.map Kf).toArray,Ma (some ⟨H,0,none⟩) l1.length n1,Ma (some ⟨I,0,none⟩) l2.length n2] W λe w'=>e=na (Wa #[La S,Oa B,Sa #[Ia ka (R:Int),Ia ka (L:Int),Ia ka (O:Int),Ia ka (M:Int)]])/\Ba W w'):=λW H I n1 n2 u T U X Y=>by have :=NN sent h ad sl l1 l2 (some ⟨H,0,none⟩) (some ⟨I,0,none⟩) n1 n2 ((hE.below u).raise u.size) ((u.cell (p:=⟨14,0,none⟩) hTl).trans hTy) (Zm hTl u.size) ho.uj ho.Bm ho.lq ho.sq (by rw[X];exact T.row) (by rw[Y];exact U.row) (by omega) (by omega) (q:=q) hq;rw[hS,hB,aw]at this;exact this
 have aq:Hid (∀W,Ba w W->Calls oa 47 #[Sa (h.map Kf).toArray,Sa (ad.map Kf).toArray,Sa (sl.map Kf).toArray,Ma p1 l1.length c1,Ma p2 l2.length c2] W λe w'=>e=na (Wa #[La S,Oa B,Sa #[Ia ka (R:Int),Ia ka (L:Int),Ia ka (O:Int),Ia ka (M:Int)]])/\Ba W w'):=λW u=>by have :=ZJ h ad sl l1 l2 p1 p2 c1 c2 ho.uj ho.Bm ho.lq ho.sq ho.RA ho.qC (Sh hr1 u) (Sh hr2 u) (by omega) (by omega) hq;rw[hS,hB,aw]at this;exact this
 have al:Hid (∀W,Ba w W->Calls oa 42 #[Ma p1 l1.length c1] W λe w'=>e=na (Ma (some ⟨W.heap.size,0,none⟩) (l1.length+2) (l1.length+2))/\Ie w' W.heap.size l1/\Ba W w'):=λW u=>Ly p1 c1 l1 (Sh hr1 u) hl1;have am:Hid (∀W,Ba w W->Calls oa 42 #[Ma p2 l2.length c2] W λe w'=>e=na (Ma (some ⟨W.heap.size,0,none⟩) (l2.length+2) (l2.length+2))/\Ie w' W.heap.size l2/\Ba W w'):=λW u=>Ly p2 c2 l2 (Sh hr2 u) hl2;have dz:Hid (∀W g n,Ba w W->Ie W g l1->l1.length+2=n->Calls oa 45 #[Ma (some ⟨g,0,none⟩) n n,Ma p1 l1.length c1] W λe w'=>e=na (Oa true)/\Ba W w'):=λW g n u hL hn=>by rw[<-hn];exact qw p1 c1 g l1 (Sh hr1 u) hL hl1
 have eh:Hid (∀W g n,Ba w W->Ie W g l2->l2.length+2=n->Calls oa 45 #[Ma (some ⟨g,0,none⟩) n n,Ma p2 l2.length c2] W λe w'=>e=na (Oa true)/\Ba W w'):=λW g n u hL hn=>by rw[<-hn];exact qw p2 c2 g l2 (Sh hr2 u) hL hl2
 obtain⟨w2,bj⟩:=nm (w.alloc (ma C 50));have dj:Ba w w2:=by rw[<-bj];exact(Zb _ _).alloc (Za _) _
 have Z:Hid ((w2.rangeAt w.heap.size 35 (h.map Kf)/\w2.rangeAt w.heap.size 140 (ad.map Kf)/\w2.rangeAt w.heap.size 2 (sl.map Kf)/\w2.cell? ⟨w.heap.size,69,none⟩=some (Ma p1 l1.length c1)/\w2.cell? ⟨w.heap.size,70,none⟩=some (Ma p2 l2.length c2))/\w.heap.size<w2.heap.size):=by rw[<-bj];exact⟨⟨ho.hash.new w _,ho.On.new w _,ho.key.new w _,by rw[Ze];exact ho.l,by rw[Ze];exact ho.m⟩,by simp⟩
 have N:Hid (∀W,Ba w2 W->W.rangeAt w.heap.size 35 (h.map Kf)/\W.rangeAt w.heap.size 140 (ad.map Kf)/\W.rangeAt w.heap.size 2 (sl.map Kf)/\W.cell? ⟨w.heap.size,69,none⟩=some (Ma p1 l1.length c1)/\W.cell? ⟨w.heap.size,70,none⟩=some (Ma p2 l2.length c2)):=λW u=>by have hk:=u.block _ Z.2;obtain⟨⟨a1,a2,a3,a4,a5⟩,-⟩:=Z.o;exact⟨zc a1 hk,zc a2 hk,zc a3 hk,(Zc hk).trans a4,(Zc hk).trans a5⟩
 have H2:=Hq dj;have eo:=Z.1.2.2.2.1;have hC:=ho.size;clear hE hTy hTl hr1 hr2 hl1 hl2 hq aw hS hB dj ho Z;go_enter func13,ntmps13;go_wp2_with fail
 clear bj eo;refine(al w2 H2.o).mono ?_;rintro e w3 ⟨rfl,T,ac⟩;obtain⟨H,ay⟩:=nm w2.heap.size;obtain⟨n1,X⟩:=nm (l1.length+2);rw[ay]at T;have H3:Hid (Ie w3 H l1/\Ba w2 w3/\Ba w w3):=⟨T,ac,H2.va ac⟩;have eu:=(N w3 ac).2.2.2.2;rw[ay,X];clear T ac ay;go_wp2_with fail
 refine(am w3 H3.2.2).mono ?_;rintro e y ⟨rfl,U,ae⟩;obtain⟨I,az⟩:=nm w3.heap.size;obtain⟨n2,Y⟩:=nm (l2.length+2);rw[az]at U;have J:Hid (Ie y H l1/\Ie y I l2/\Ba w2 y/\Ba w y/\l1.length+2=n1/\l2.length+2=n2):=⟨H3.1.below ae,U,H3.2.1.va ae,H3.2.2.va ae,X,Y⟩;have fw:(l1.length:Int)<=(n1:Int):=by omega
 have fx:(l2.length:Int)<=(n2:Int):=by omega
 rw[az,Y];clear U ae az X Y eu H3 al am;go_upto_region 3 with fail
 obtain⟨D,ah⟩:∃v:Value,v=Ia ka (R:Int):=⟨_,rfl⟩;obtain⟨E,ai⟩:∃v:Value,v=Ia ka (L:Int):=⟨_,rfl⟩;obtain⟨F,aj⟩:∃v:Value,v=Ia ka (O:Int):=⟨_,rfl⟩;obtain⟨G,ak⟩:∃v:Value,v=Ia ka (M:Int):=⟨_,rfl⟩;have bq:Hid (D=Ia ka (R:Int)/\E=Ia ka (L:Int)/\F=Ia ka (O:Int)/\G=Ia ka (M:Int)):=⟨ah,ai,aj,ak⟩;have ao:Hid ((#[D,E,F,G]:Array Value).all (·.oneCell')=true):=Hq (by rw[ah,ai,aj,ak];simp[Value.oneCell']);have bn:Hid (∀W,Ba y W->Calls oa 46 #[Sa (h.map Kf).toArray,Sa (ad.map Kf).toArray,Sa (sl.map Kf).toArray,Ma (some ⟨H,0,none⟩) l1.length n1,Ma (some ⟨I,0,none⟩) l2.length n2] W λe w'=>e=na (Wa #[La S,Oa B,Sa #[D,E,F,G]])/\Ba W w'):=λW u=>by rw[ah,ai,aj,ak];exact ar W H I n1 n2 (J.2.2.2.1.va u) (J.1.below u) (J.2.1.below u) J.2.2.2.2.1.symm J.2.2.2.2.2.symm
 have bl:=N;clear N;have N:Hid (∀W,Ba y W->W.rangeAt w.heap.size 35 (h.map Kf)/\W.rangeAt w.heap.size 140 (ad.map Kf)/\W.rangeAt w.heap.size 2 (sl.map Kf)/\W.cell? ⟨w.heap.size,69,none⟩=some (Ma p1 l1.length c1)/\W.cell? ⟨w.heap.size,70,none⟩=some (Ma p2 l2.length c2)):=λW u=>bl W (J.2.2.1.va u);clear ah ai aj ak ar bl;go_cut [5,6,7] (λv5 v6 v7 wd=>∃f,v5=La S/\v6=Oa B/\v7=Qa (some ⟨f,0,none⟩)/\y.heap.size<=f/\wd.heap[f]? =some (ma #[D,E,F,G] 91 (0,0))/\Ba y wd)
 case first=>
  refine Vj (by kernel_rfl) ?_;change wpAny _ _ _ _ _ _ _ (World.drew _);obtain⟨vf,a⟩:∃vf:Nat->Option Value,vf=λi=>([some (Qa (some ⟨w.heap.size,35,none⟩)),some (Sa (h.map Kf).toArray),some (Qa (some ⟨w.heap.size,140,none⟩)),some (Sa (ad.map Kf).toArray),some (Qa (some ⟨w.heap.size,2,none⟩)),some (Sa (sl.map Kf).toArray),some (Ma (some ⟨H,0,none⟩) n1 n1),some (Qa (some ⟨w.heap.size,69,none⟩)),some (Ma p1 l1.length c1),some (Ia ka (l1.length:Int)),some (Ma (some ⟨H,0,none⟩) l1.length n1),some (Ma (some ⟨I,0,none⟩) n2 n2),some (Qa (some ⟨w.heap.size,70,none⟩)),some (Ma p2 l2.length c2),some (Ia ka (l2.length:Int)),some (Ma (some ⟨I,0,none⟩) l2.length n2),some (Wa #[La S,Oa B,Sa #[D,E,F,G]]),some (Wa #[La S,Oa B,Sa #[D,E,F,G]]),some (La S),some (Oa B),some (Sa #[D,E,F,G]),none,some (La S),some (Oa B),none]:List (Option Value)).getD i none:=⟨_,rfl⟩;refine jr _ (λd v w'=>(∀i x,vf i=some x->d i=true->v i=x)/\(λd v w'=>ri y D E F G (d 21) (d 24) (v 21) w') d v w') (by kernel_rfl) (by kernel_rfl) ?_ _ (λ_=>undef) ?_ ?_
  .intro i o ho fo t b W k r j c;have hi:i<25:=(Zg.1 ho).1;match i,hi with
   |0,_=>obtain rfl:=Zi ho;have t1:b.tmps[1]? =some (Qa (some ⟨w.heap.size,0,none⟩)):=(k.rest 1 (λi _=>Qh (by kernel_rfl) i)).trans rfl;refine Qe c.1 (by rw[a];rfl) c.2 ?_;clear ho j k c r a;go_simp
   |1,_=>obtain rfl:=Zi ho;have fp:b.tmps[21]? =some (Qa (some ⟨w.heap.size,35,none⟩)):=sd k c.1 (j ⟨0,.data⟩ (by simp) rfl) rfl (by simp) (by rw[a];rfl);refine Jv 39 (.tmp 21) rfl w.heap.size 35 (by simp only[Act.eval,Ya,fp,Yk]) (h.map Kf) _ (N W c.2.below).1 bi rfl dt ?_;exact⟨_,rfl,mj c.1 (by rw[a];rfl),c.2⟩
   |2,_=>obtain rfl:=Zi ho;have t1:b.tmps[1]? =some (Qa (some ⟨w.heap.size,0,none⟩)):=(k.rest 1 (λi _=>Qh (by kernel_rfl) i)).trans rfl;refine Qe c.1 (by rw[a];rfl) c.2 ?_;clear ho j k c r a;go_simp
   |3,_=>obtain rfl:=Zi ho;have fq:b.tmps[23]? =some (Qa (some ⟨w.heap.size,140,none⟩)):=sd k c.1 (j ⟨2,.data⟩ (by simp) rfl) rfl (by simp) (by rw[a];rfl);refine Jv 48 (.tmp 23) rfl w.heap.size 140 (by simp only[Act.eval,Ya,fq,Yk]) (ad.map Kf) _ (N W c.2.below).2.1 bc rfl dr ?_;exact⟨_,rfl,mj c.1 (by rw[a];rfl),c.2⟩
   |4,_=>obtain rfl:=Zi ho;have t1:b.tmps[1]? =some (Qa (some ⟨w.heap.size,0,none⟩)):=(k.rest 1 (λi _=>Qh (by kernel_rfl) i)).trans rfl;refine Qe c.1 (by rw[a];rfl) c.2 ?_;clear ho j k c r a;go_simp
   |5,_=>obtain rfl:=Zi ho;have fu:b.tmps[25]? =some (Qa (some ⟨w.heap.size,2,none⟩)):=sd k c.1 (j ⟨4,.data⟩ (by simp) rfl) rfl (by simp) (by rw[a];rfl);refine Jv 37 (.tmp 25) rfl w.heap.size 2 (by simp only[Act.eval,Ya,fu,Yk]) (sl.map Kf) _ (N W c.2.below).2.2.1 bf rfl du ?_;exact⟨_,rfl,mj c.1 (by rw[a];rfl),c.2⟩
   |6,_=>obtain rfl:=Zi ho;have t3:b.tmps[3]? =some (Ma (some ⟨H,0,none⟩) n1 n1):=(k.rest 3 (λi _=>Qh (by kernel_rfl) i)).trans rfl;refine Qe c.1 (by rw[a];rfl) c.2 ?_;clear ho j k c r a;go_simp
   |7,_=>obtain rfl:=Zi ho;have t1:b.tmps[1]? =some (Qa (some ⟨w.heap.size,0,none⟩)):=(k.rest 1 (λi _=>Qh (by kernel_rfl) i)).trans rfl;refine Qe c.1 (by rw[a];rfl) c.2 ?_;clear ho j k c r a;go_simp
   |8,_=>obtain rfl:=Zi ho;have gj:b.tmps[28]? =some (Qa (some ⟨w.heap.size,69,none⟩)):=sd k c.1 (j ⟨7,.data⟩ (by simp) rfl) rfl (by simp) (by rw[a];rfl);have z:=(N W c.2.below).2.2.2.1;refine Qe c.1 (by rw[a];rfl) c.2 ?_;clear ho j k c r a;go_simp
   |9,_=>obtain rfl:=Zi ho;have gn:b.tmps[29]? =some (Ma p1 l1.length c1):=sd k c.1 (j ⟨8,.data⟩ (by simp) rfl) rfl (by simp) (by rw[a];rfl);refine Qe c.1 (by rw[a];rfl) c.2 ?_;clear ho j k c r a;go_simp
   |10,_=>obtain rfl:=Zi ho;have gi:b.tmps[27]? =some (Ma (some ⟨H,0,none⟩) n1 n1):=sd k c.1 (j ⟨6,.data⟩ (by simp) rfl) rfl (by simp) (by rw[a];rfl);have gq:b.tmps[30]? =some (Ia ka (l1.length:Int)):=sd k c.1 (j ⟨9,.data⟩ (by simp) rfl) rfl (by simp) (by rw[a];rfl);refine Qe c.1 (by rw[a];rfl) c.2 ?_;clear ho j k c r a;go_simp
   |11,_=>obtain rfl:=Zi ho;have t4:b.tmps[4]? =some (Ma (some ⟨I,0,none⟩) n2 n2):=(k.rest 4 (λi _=>Qh (by kernel_rfl) i)).trans rfl;refine Qe c.1 (by rw[a];rfl) c.2 ?_;clear ho j k c r a;go_simp
   |12,_=>obtain rfl:=Zi ho;have t1:b.tmps[1]? =some (Qa (some ⟨w.heap.size,0,none⟩)):=(k.rest 1 (λi _=>Qh (by kernel_rfl) i)).trans rfl;refine Qe c.1 (by rw[a];rfl) c.2 ?_;clear ho j k c r a;go_simp
   |13,_=>obtain rfl:=Zi ho;have gy:b.tmps[33]? =some (Qa (some ⟨w.heap.size,70,none⟩)):=sd k c.1 (j ⟨12,.data⟩ (by simp) rfl) rfl (by simp) (by rw[a];rfl);have z:=(N W c.2.below).2.2.2.2;refine Qe c.1 (by rw[a];rfl) c.2 ?_;clear ho j k c r a;go_simp
   |14,_=>obtain rfl:=Zi ho;have i7:b.tmps[34]? =some (Ma p2 l2.length c2):=sd k c.1 (j ⟨13,.data⟩ (by simp) rfl) rfl (by simp) (by rw[a];rfl);refine Qe c.1 (by rw[a];rfl) c.2 ?_;clear ho j k c r a;go_simp
   |15,_=>obtain rfl:=Zi ho;have gw:b.tmps[32]? =some (Ma (some ⟨I,0,none⟩) n2 n2):=sd k c.1 (j ⟨11,.data⟩ (by simp) rfl) rfl (by simp) (by rw[a];rfl);have i8:b.tmps[35]? =some (Ia ka (l2.length:Int)):=sd k c.1 (j ⟨14,.data⟩ (by simp) rfl) rfl (by simp) (by rw[a];rfl);refine Qe c.1 (by rw[a];rfl) c.2 ?_;clear ho j k c r a;go_simp
   |16,_=>
    obtain rfl:=Zi ho;have fy:b.tmps[22]? =some (Sa (h.map Kf).toArray):=sd k c.1 (j ⟨1,.data⟩ (by simp) rfl) rfl (by simp) (by rw[a];rfl);have gc:b.tmps[24]? =some (Sa (ad.map Kf).toArray):=sd k c.1 (j ⟨3,.data⟩ (by simp) rfl) rfl (by simp) (by rw[a];rfl);have ge:b.tmps[26]? =some (Sa (sl.map Kf).toArray):=sd k c.1 (j ⟨5,.data⟩ (by simp) rfl) rfl (by simp) (by rw[a];rfl);have gv:b.tmps[31]? =some (Ma (some ⟨H,0,none⟩) l1.length n1):=sd k c.1 (j ⟨10,.data⟩ (by simp) rfl) rfl (by simp) (by rw[a];rfl);have i9:b.tmps[36]? =some (Ma (some ⟨I,0,none⟩) l2.length n2):=sd k c.1 (j ⟨15,.data⟩ (by simp) rfl) rfl (by simp) (by rw[a];rfl);refine zo (Wa #[La S,Oa B,Sa #[D,E,F,G]]) (λw9 P=>⟨_,rfl,mj c.1 (by rw[a];rfl),c.2.more P⟩) ?_;have ei:=Hq c;clear ho j k c r a;go_simp;go_at_call 46
    refine(bn W ei.2.below).mono ?_;rintro e w9 ⟨rfl,P⟩;exact⟨rfl,P⟩
   |17,_=>obtain rfl:=Zi ho;have ia:b.tmps[37]? =some (Wa #[La S,Oa B,Sa #[D,E,F,G]]):=sd k c.1 (j ⟨16,.data⟩ (by simp) rfl) rfl (by simp) (by rw[a];rfl);refine Qe c.1 (by rw[a];rfl) c.2 ?_;clear ho j k c r a;go_simp
   |18,_=>obtain rfl:=Zi ho;have dv:b.tmps[20]? =some (Wa #[La S,Oa B,Sa #[D,E,F,G]]):=sd k c.1 (j ⟨17,.data⟩ (by simp) rfl) rfl (by simp) (by rw[a];rfl);refine Qe c.1 (by rw[a];rfl) c.2 ?_;clear ho j k c r a;go_simp
   |19,_=>obtain rfl:=Zi ho;have dv:b.tmps[20]? =some (Wa #[La S,Oa B,Sa #[D,E,F,G]]):=sd k c.1 (j ⟨17,.data⟩ (by simp) rfl) rfl (by simp) (by rw[a];rfl);refine Qe c.1 (by rw[a];rfl) c.2 ?_;clear ho j k c r a;go_simp
   |20,_=>obtain rfl:=Zi ho;have dv:b.tmps[20]? =some (Wa #[La S,Oa B,Sa #[D,E,F,G]]):=sd k c.1 (j ⟨17,.data⟩ (by simp) rfl) rfl (by simp) (by rw[a];rfl);refine Qe c.1 (by rw[a];rfl) c.2 ?_;clear ho j k c r a;go_simp
   |21,_=>obtain rfl:=Zi ho;refine Vd (K:=λa' w'=>a'=b.put (some 7) (Qa (some ⟨W.heap.size,0,none⟩))/\w'=W.alloc (ma #[Ia ka 0,Ia ka 0,Ia ka 0,Ia ka 0] 91)) (by rintro a' w' ⟨rfl,rfl⟩;exact⟨_,rfl,vo c.1 (by rw[a];rfl),c.2.yv r⟩) ?_;clear ho j k c r a;go_simp
   |22,_=>obtain rfl:=Zi ho;have ib:b.tmps[38]? =some (La S):=sd k c.1 (j ⟨18,.data⟩ (by simp) rfl) rfl (by simp) (by rw[a];rfl);refine Qe c.1 (by rw[a];rfl) c.2 ?_;clear ho j k c r a;go_simp
   |23,_=>obtain rfl:=Zi ho;have ic:b.tmps[39]? =some (Oa B):=sd k c.1 (j ⟨19,.data⟩ (by simp) rfl) rfl (by simp) (by rw[a];rfl);refine Qe c.1 (by rw[a];rfl) c.2 ?_;clear ho j k c r a;go_simp
   |24,_=>obtain rfl:=Zi ho;have fv:b.tmps[40]? =some (Sa #[D,E,F,G]):=sd k c.1 (j ⟨20,.data⟩ (by simp) rfl) rfl (by simp) (by rw[a];rfl);have bv:=j ⟨21,.data⟩ (by simp) rfl;obtain⟨f,x0,x1,x2,x3,L,M,ew⟩:=c.2.put bv;have t7:b.tmps[7]? =some (Qa (some ⟨f,0,none⟩)):=(k.done 21 7 bv rfl (by simp)).trans (Y5 some L);refine J5 91 (.tmp 7) (.tmp 40) rfl f 0 #[D,E,F,G] (by simp only[Act.eval,Ya,t7,Yk]) (by simp only[Act.eval,Ya,fv,Yk]) (vj M rfl) (by kernel_rfl) ao.o ?_;exact⟨undef,rfl,vo c.1 (by rw[a];rfl),ew⟩
  .exact⟨λ_ _ _ h=>(by simp at h),ri.start (Zb _ _).drew (by simp) (by simp)⟩
  .intro t W c;have e0:t 0=Qa (some ⟨w.heap.size,35,none⟩):=c.1 0 _ (by rw[a];rfl) rfl;have e1:t 1=Sa (h.map Kf).toArray:=c.1 1 _ (by rw[a];rfl) rfl;have e2:t 2=Qa (some ⟨w.heap.size,140,none⟩):=c.1 2 _ (by rw[a];rfl) rfl;have e3:t 3=Sa (ad.map Kf).toArray:=c.1 3 _ (by rw[a];rfl) rfl;have e4:t 4=Qa (some ⟨w.heap.size,2,none⟩):=c.1 4 _ (by rw[a];rfl) rfl;have e5:t 5=Sa (sl.map Kf).toArray:=c.1 5 _ (by rw[a];rfl) rfl;have e6:t 6=Ma (some ⟨H,0,none⟩) n1 n1:=c.1 6 _ (by rw[a];rfl) rfl;have e7:t 7=Qa (some ⟨w.heap.size,69,none⟩):=c.1 7 _ (by rw[a];rfl) rfl;have e8:t 8=Ma p1 l1.length c1:=c.1 8 _ (by rw[a];rfl) rfl;have e9:t 9=Ia ka (l1.length:Int):=c.1 9 _ (by rw[a];rfl) rfl;have cf:t 10=Ma (some ⟨H,0,none⟩) l1.length n1:=c.1 10 _ (by rw[a];rfl) rfl;have ch:t 11=Ma (some ⟨I,0,none⟩) n2 n2:=c.1 11 _ (by rw[a];rfl) rfl;have ci:t 12=Qa (some ⟨w.heap.size,70,none⟩):=c.1 12 _ (by rw[a];rfl) rfl;have cj:t 13=Ma p2 l2.length c2:=c.1 13 _ (by rw[a];rfl) rfl;have cq:t 14=Ia ka (l2.length:Int):=c.1 14 _ (by rw[a];rfl) rfl;have cu:t 15=Ma (some ⟨I,0,none⟩) l2.length n2:=c.1 15 _ (by rw[a];rfl) rfl;have cw:t 16=Wa #[La S,Oa B,Sa #[D,E,F,G]]:=c.1 16 _ (by rw[a];rfl) rfl;have dc:t 17=Wa #[La S,Oa B,Sa #[D,E,F,G]]:=c.1 17 _ (by rw[a];rfl) rfl;have de:t 18=La S:=c.1 18 _ (by rw[a];rfl) rfl;have df:t 19=Oa B:=c.1 19 _ (by rw[a];rfl) rfl;have dg:t 20=Sa #[D,E,F,G]:=c.1 20 _ (by rw[a];rfl) rfl;have dh:t 22=La S:=c.1 22 _ (by rw[a];rfl) rfl;have di:t 23=Oa B:=c.1 23 _ (by rw[a];rfl) rfl;have hX:=c.2;simp only[Gx,Act.put,Zf,Nat.reduceAdd,Yn,Y9,Yw,e0,e1,e2,e3,e4,e5,e6,e7,e8,e9,cf,ch,ci,cj,cq,cu,cw,dc,de,df,dg,dh,di];clear c a e0 e1 e2 e3 e4 e5 e6 e7 e8 e9 cf ch ci cj cq cu cw dc de df dg dh di;obtain⟨f,L,O,M⟩:=hX.fin;have HY:Hid (t 21=Qa (some ⟨f,0,none⟩)/\y.heap.size<=f/\W.heap[f]? =some (ma #[D,E,F,G] 91 (0,0))/\Ba y W):=⟨L,O,M,hX.below⟩;clear hX L O M;(try go_wp2);go_meet;exact⟨f,rfl,rfl,HY.1,HY.2⟩
 case rest=>
  obtain⟨f,rfl,rfl,rfl,f9,dn,ag⟩:=hcut;obtain⟨w6,rfl⟩:∃x,x=wc:=⟨_,rfl⟩;obtain⟨rfl,rfl,rfl,rfl⟩:=bq.o;obtain⟨hr1,hr2,dq,fi,fj⟩:=N _ ag;have H6:Hid (w6.heap[f]? =some (ma #[Ia ka (R:Int),Ia ka (L:Int),Ia ka (O:Int),Ia ka (M:Int)] 91 (0,0))/\Ba y w6):=⟨dn,ag⟩;have bm:=Hq (aq w6 (J.2.2.2.1.va ag));clear f9 dn ag bn ao aq bq;go_wp2_with (first| (refine Zr rfl 39 _ rfl w.heap.size 35 rfl (h.map Kf) _ hr1 bi rfl dt ?_)| (refine Zr rfl 48 _ rfl w.heap.size 140 rfl (ad.map Kf) _ hr2 bc rfl dr ?_)| (refine Zr rfl 37 _ rfl w.heap.size 2 rfl (sl.map Kf) _ dq bf rfl du ?_))
  refine bm.mono ?_;rintro e w7 ⟨rfl,V⟩;have ba:=(Zg.1 H6.1).1;have dm:Ba w7 (w7.alloc (ma #[Ia ka (R:Int),Ia ka (L:Int),Ia ka (O:Int),Ia ka (M:Int)] 91)):=(Zb _ _).alloc (Za _) _;obtain⟨c0,c1,c2,c3,-⟩:=Wg ((V.block f ba).trans H6.1);have fh:¬f=w7.heap.size:=by have :=V.size;omega
  have fg:f<w7.heap.size:=Zm ba V.size;have H8:Hid (Ba y (w7.alloc (ma #[Ia ka (R:Int),Ia ka (L:Int),Ia ka (O:Int),Ia ka (M:Int)] 91))):=(H6.2.va V).va dm;have ej:=Hq (λW=>tD R L O M W);clear V ba dm hr1 hr2 dq fi fj bm;go_wp2_with fail
  refine(ej _).mono ?_;rintro e w8 ⟨rfl,dk⟩;have H9:=Hq (H8.va dk);have fk:=(N w8 H9.o).2.2.2.1;clear dk c0 c1 c2 c3 fh fg H8;go_wp2_with fail
  refine(dz w8 H n1 (J.2.2.2.1.va H9.o) (J.1.below H9.o) J.2.2.2.2.1).mono ?_;rintro e w9 ⟨rfl,P⟩;have Q:=Hq (H9.va P);have fm:=(N w9 Q.o).2.2.2.2;clear P fk H9;go_wp2_with fail
  refine(eh w9 I n2 (J.2.2.2.1.va Q.o) (J.2.1.below Q.o) J.2.2.2.2.2).mono ?_;rintro e ie ⟨rfl,au⟩;have dw:=Hq (J.2.2.2.1.va (Q.va au));clear au fm Q;go_wp2;go_ret;exact⟨rfl,dw.o⟩
end
section
variable{l:List Ed}
theorem bG(p:Da)(h:∀y∈l,nd 65 y):∀y∈K8 l p,nd 65 y:=by
 by_cases b:0<p.size;.exact uC h b
 .intro y d;obtain⟨x,c,rfl⟩:=Xd.1 d;have a:p.size=0:=by omega
  have e:x.cut p=x:=by unfold Ed.cut;rw[a,show x.path.extract 0 x.path.size=x.path from Mj (by rw[Mi];rfl)]
  rw[e];exact h x (Xu.1 c).1
theorem aC:∀(f:Nat) (l:List Ed) (p:Da) (out:List (List Nat)),(∀y∈l,nd 65 y)->(∀c∈out,c.length<=2048)->∀c∈Hc f l p out,c.length<=2048
 |0,_,_,_,_,h=>h
 |_+1,[],_,_,_,h=>h
 |f+1,x::l,p,out,hl,h=>by
  have hput:∀c∈G6 out (K5 65 (x::l)),c.length<=2048:=by
   unfold G6;split
   .intro c a;rcases Yc.1 a with a|a;.exact h c a
    .rw[Y8.1 a];exact ly 65 _ hl
   .exact h
  rw[Hc];split;.exact hput
  .split
   .split;.exact aC f _ _ _ (bG _ hl) hput
    .exact hput
   .exact aC f _ _ _ (bG _ hl) hput
structure Uq(C:Array Value)(kd a:Int)(K:Array Nat)(s:Da)(fl:Bool)(h ad:List Nat)(p1 p2:Option Addr)(n1 c1 n2 c2:Nat):Prop where
 k:Uy C kd a K s
 t:U9 C K.toList h ad p1 p2 n1 c1 n2 c2
 f:C[68]? =some (Oa fl)
theorem zT{w:Fa}{b D:Nat}{v:Value}{C:Array Value}{kd a:Int}{K:Array Nat}{s:Da}{fl:Bool}{h ad:List Nat}{p1 p2:Option Addr}{n1 c1 c2:Nat}{M:List Da}(sent:Nat->Addr)(hE:Env w.heap.size sent w)(hTy:Ht w)(hTl:14<w.heap.size)(hR:vd w D b v l)(hl:l.length<=2097152)(hok:∀y∈l,nd 65 y)(hr:Sd 64 l)(ho:Uq C kd a K s fl h ad p1 p2 n1 c1 M.length c2)(hs:s.size<=1048576)(hM:Nf w p2 M c2){L:List (List Nat)}(hL:Hc 65 l (Kg (Kl K.toList)) []=L)(hLn:L.length<=65):Calls oa 17 #[Qa (some ⟨b,0,none⟩),Sa C] w λe w'=>e=na (Oa true)/\Ba w w':=by
 have ac:=Mb ho.k.len
 have S:=underlying37;have HP:Hid (∀W,Ba w W->Calls oa 57 #[Qa (some ⟨b,0,none⟩),Sa (K.toList.map Kf).toArray] W λx w'=>∃U,x=na (Wa #[U,Ia ka 0])/\Ba W w'/\Db w' W.heap.size 1 U L.length (G9 L)):=λW d=>JC (hR.below d) hl hok hr ho.k.len ho.k.bytes hL;have al:Hid (∀W,Ba w W->Calls oa 19 #[Qa (some ⟨b,0,none⟩)] W λe w'=>e=na (Sa ((Hm l).map Kf).toArray)/\Ba W w'):=λW d=>FE (hR.below d) hl hok;have HV:Hid (∀W p c Q,Ba w W->Nf W p Q c->Q.length<=1048576->Calls oa 12 #[Sa ((Hm l).map Kf).toArray,Sa (K.toList.map Kf).toArray,Ma p Q.length c] W λe w'=>e=na (Oa true)/\Ba W w'):=λW p c Q d hQ hl=>ND sent _ K Q p c ((hE.below d).raise d.size) ((d.cell (p:=⟨14,0,none⟩) hTl).trans hTy) (Zm hTl d.size) (eA l) (kG l) ho.k.len ho.k.bytes hQ hl;obtain⟨w2,T⟩:=nm (w.alloc (ma C 50));have ah:Ba w w2:=by rw[<-T];exact(Zb _ _).alloc (Za _) _
 have E:Hid ((w2.rangeAt w.heap.size 2 (K.toList.map Kf)/\w2.cell? ⟨w.heap.size,67,none⟩=some (La s)/\w2.cell? ⟨w.heap.size,68,none⟩=some (Oa fl)/\w2.cell? ⟨w.heap.size,70,none⟩=some (Ma p2 M.length c2))/\w.heap.size<w2.heap.size):=by rw[<-T];exact⟨⟨ho.t.key.new w _,by rw[Ze];exact ho.k.s,by rw[Ze];exact ho.f,by rw[Ze];exact ho.t.m⟩,by simp⟩
 have F:Hid (∀W,Ba w2 W->W.rangeAt w.heap.size 2 (K.toList.map Kf)/\W.cell? ⟨w.heap.size,67,none⟩=some (La s)/\W.cell? ⟨w.heap.size,68,none⟩=some (Oa fl)/\W.cell? ⟨w.heap.size,70,none⟩=some (Ma p2 M.length c2)):=λW hb=>by have X:=hb.block _ E.2;obtain⟨⟨a1,a2,a3,a4⟩,-⟩:=E.o;exact⟨zc a1 X,(Zc X).trans a2,(Zc X).trans a3,(Zc X).trans a4⟩
 have J:Hid (Ba w w2/\Nf w p2 M c2/\L.length<=65/\s.size<=1048576):=⟨ah,hM,hLn,hs⟩;have aj:=E.1.1;clear hE hTy hTl hR hl hok hr ho hs hM hL hLn ah E;go_enter func17,ntmps17;go_upto_region 1 with fail
 clear T;go_wp2_with (first| (refine Zr rfl 37 _ rfl w.heap.size 2 rfl (K.toList.map Kf) _ aj S rfl ac ?_))
 refine(HP w2 J.1).mono ?_;rintro e V ⟨U,rfl,P,O⟩;obtain⟨Y,N,rfl,-,-⟩:=Lq O;have n:Hid (Ba w2 V/\Db V w2.heap.size 1 (Ma Y L.length N) L.length (G9 L)):=⟨P,O⟩;obtain⟨m,hm⟩:=nm L.length;obtain⟨mm,R⟩:=nm M.length;have o:Hid (L.length=m/\M.length=mm/\m<=65):=⟨hm,R,by have :=J.o;omega⟩;rw[hm]at n⊢;rw[R]at F;obtain⟨-,aw,ay,az⟩:=F V P;clear P O hm R aj HP;go_upto_region 4 with fail
 obtain⟨pb,i⟩:=nm ((fl&&decide (0<m)&&decide (0<mm)));have ak:Hid ((fl&&decide (0<m)&&decide (0<mm))=pb):=i;go_cut [28] (λu wd=>u=Oa pb/\wd=V)
 case first=>
  have e1:decide ((0:Int)<(m:Int))=decide (0<m):=by simp
  have e2:decide ((0:Int)<(mm:Int))=decide (0<mm):=by simp
  cases fl with
  |false=>
   obtain rfl:pb=false:=by rw[<-i];rfl
   go_wp2;go_meet;exact⟨rfl,rfl⟩
  |true=>
   by_cases q:0<m
   .have i1:(0:Int)<(m:Int):=by omega
    by_cases r:0<mm
    .have i2:(0:Int)<(mm:Int):=by omega
     obtain rfl:pb=true:=by rw[<-i,Z5 q,Z5 r];rfl
     go_wp2;go_meet;exact⟨rfl,rfl⟩
    .have i2:¬(0:Int)<(mm:Int):=by omega
     obtain rfl:pb=false:=by rw[<-i,Z5 q,Zt r];rfl
     go_wp2;go_meet;exact⟨rfl,rfl⟩
   .have i1:¬(0:Int)<(m:Int):=by omega
    obtain rfl:pb=false:=by rw[<-i,Zt q];simp
    go_wp2;go_meet;exact⟨rfl,rfl⟩
 case rest=>
  obtain⟨rfl,ar⟩:=hcut;obtain rfl:=ar.symm;clear i;apply_assumption;go_cut [] (λwd=>∃Q:List Da,Q.length=m/\Nf wd Y Q N/\Ba w2 wd)
  case first=>
   cases pb with
   |false=>go_wp2;go_meet;obtain⟨p',c',e,hs,-⟩:=Lq (L:=L) (by rw[o.1];exact n.2);simp only[Z3]at e;obtain⟨rfl,-,rfl⟩:=e;exact⟨L.map Kg,by rw[Zl];exact o.1,hs.vg,n.1⟩
   |true=>
    have hp:=ak.o;simp only[X5,Jw]at hp;obtain⟨⟨-,q⟩,r⟩:=hp;obtain⟨g,ba,e,am,bc,-,-,ai,-⟩:=n.2.full q;simp only[Z3]at e;obtain⟨rfl,-,rfl⟩:=e;obtain⟨j,hj⟩:=nm (s.size%m);have ao:j<m:=by rw[<-hj];exact Nat.mod_lt _ q
    have bf:(j:Int)<(m:Int):=by omega
    have au:(s.size:Int).tmod (m:Int)=(j:Int):=by rw[<-hj];exact(Int.ofNat_tmod s.size m).symm
    have bi:¬m=0:=by omega
    obtain⟨u,hu⟩:∃u,M[0]? =some u:=⟨M[0]'(by rw[o.2.1];exact r),Zk _⟩;obtain⟨gm,om,rfl,cm⟩:=lC (Sh J.2.1 (J.1.va n.1)) hu;rw[V0]at cm;have i2:(0:Int)<(mm:Int):=by omega
    have H:=ai j (by rw[Nat.mul_one];have :=n.2.1;rcases n.2.2 with⟨e,_⟩|⟨_,_,e,_,_,h,_⟩<;>simp at e<;>omega);rw[Zf]at H;obtain⟨u0,c0⟩:=X9.1 H.1;have f0:=H.2;have HY:Hid (j<m/\L.length=m/\Db V w2.heap.size 1 (Ma (some ⟨g,0,none⟩) m N) m (G9 L)/\w2.heap.size<=g):=⟨ao,o.1,n.2,am⟩;clear H ai hj hu;go_upto_region 5 with fail
    go_region;(try go_wp2);go_meet;obtain⟨q,r,h3,h4⟩:=HY.o;have hO:=h3.set j (by simp[G9,r];exact q) (La u);have e1:(G9 L).set j (La u)=((L.map Kg).set j u).map Value.string:=by unfold G9;rw[List.map_set,Xx];rfl
    rw[e1]at hO;obtain⟨p',c',e,e2,hs,-⟩:=hO.texts;rw[Ve,Zl]at e e2;simp only[Z3]at e;obtain⟨rfl,-,rfl⟩:=e;exact⟨(L.map Kg).set j u,by rw[Ve,Zl];exact r,hs.vg,(n.1.setCell (p:=⟨g,j,none⟩) h4 _).drew⟩
  case rest=>
   obtain⟨Q,ae,ag,G⟩:=hcut;obtain⟨z,rfl⟩:∃x,x=wc:=⟨_,rfl⟩;obtain⟨aq,-,-,-⟩:=F z G;have I:=Hq (J.1.va G);have B:Hid (Q.length=m/\Nf z Y Q N/\w.heap.size<z.heap.size):=⟨ae,ag,by have h:=(F z G).2.1;simpa using Yo z _ h⟩;clear ae ag G;go_upto_region 6 with fail
   refine ml (C:=λW=>Ba z W) (by kernel_rfl) (by kernel_rfl) (Zb _ _).drew ?_;go_big_quiet_step (fail)
   go_big_quiet_step (exact λd=>(al _ (I.va d)).Cb d)
   go_big_quiet_step (exact λ_=>rfl)
   refine BigFrame.wpQuiet_want rfl λKq Z=>Wx 37 _ rfl w.heap.size 2 rfl (K.toList.map Kf) _ (λW d=>zc aq (d.block _ B.2.2)) S rfl ac (Z _ ?_);clear Kq Z;simp only[Act.put,Yn,Y9,Yw];go_big_quiet_step (fail)
   go_big_quiet_step (exact λd=>by have h:=HV _ Y N Q (I.va d) (Sh B.2.1 d) (by have :=B.1;have :=o.o;omega);rw[B.1]at h;exact h.Cb d)
   go_big_quiet_step (fail)
   refine X4 λW d=>?_;have HE:=Hq (I.va d);clear d;go_wp2;go_ret;exact⟨rfl,HE.o⟩
end
section
variable{B:Nat}{S:Bb}{w W:Fa}{C:Array Value}
theorem OA{W0:Fa}(hf:ua B S w)(h0:w.alloc (ma C 50)=W0)(hW:Fr B S S W0 W):W.heap[w.heap.size]? =W0.heap[w.heap.size]? :=hW.other _ (by rw[<-h0];simp) (hf.fresh (Za _))
variable{ps:List Pq}{K:Array Nat}{s:Da}{h ad:List Nat}{p1 p2:Option Addr}
theorem JN{bw:Nat}{q:Bs}{p:Pq}{a:Int}{fl:Bool}{n1 c1 n2 c2:Nat}(hw:WM B S w bw q ps)(hp:p∈ps)(hT:qb w)(hM:16<=B)(hl:p.l.length<=2097151)(hn:q.n<=2097151)(he:q.es.length<=2097151)(ho:Uq C 16 a K s fl h ad p1 p2 n1 c1 n2 c2):Calls oa 20 #[Qa (some ⟨bw,0,none⟩),Sa C,Qa (some ⟨p.bx,0,none⟩),Qa (some ⟨p.bz,0,none⟩)] w λe w'=>e=na (Oa true)/\Below B w w'/\∃t x,WM B S w' bw ⟨q.x,q.z,t,q.es++[x],q.n+1⟩ ps:=by
 have X:=Mb ho.k.len
 have O:=underlying37;obtain⟨W0,i⟩:=nm (w.alloc (ma C 50));have u:Ba w W0:=by rw[<-i];exact(Zb _ _).alloc (Za _) _
 have k0:W0.cell? ⟨w.heap.size,0,none⟩=some (Ia ka 16):=by rw[<-i,Ze];exact ho.k.k
 have o:W0.rangeAt w.heap.size 2 (K.toList.map Kf):=by rw[<-i];exact ho.t.key.new w _
 have ak:Hid (∀W,Fr B S S W0 W->W.rangeAt w.heap.size 2 (K.toList.map Kf)):=λW hW=>zc o (OA hw.wa i hW);have d:=hw.behind u;have ae:=hT.below u (Z2 hM hw.wa.le);obtain⟨t,ht,hc,c⟩:=(d.qi p hp).t.ex;obtain⟨L,Q⟩:=nm (t.Qg (Kg (Kl K.toList)));obtain⟨k1,k2,k3⟩:=xo ho.k.len ho.k.bytes;have Y:Hc 65 p.l (Kg (Kl K.toList)) []=L:=by rw[<-Q];exact OB hc (d.qi p hp).row c k1 k3
 have R:=Hq (xM d.wa ae hM ht hc ho.k.len ho.k.bytes Q);have T:Hid (∀W,Fr B S S W0 W->Calls oa 57 #[Qa (some ⟨p.bz,0,none⟩),Sa (K.toList.map Kf).toArray] W λx w'=>∃E,x=na (Wa #[E,Ia ka 0])/\Ba W w'/\Db w' W.heap.size 1 E L.length (G9 L)):=λW hW=>by have m:=(d.frame hW).qi p hp;exact JC m.r (by omega) m.ok m.row ho.k.len ho.k.bytes Y
 have Z:L.length<=65:=by rw[<-Q];exact Fy _ _
 have b:=Hq (A6 d hw u hp hn (A2 he Z));clear hw hp hT hl hn he ho u d ae ht hc c Q Y k1 k2 k3 Z;go_enter func20,ntmps20;go_upto_region 1 with fail
 clear i;go_wp2_with (refine Zr rfl 37 _ rfl w.heap.size 2 rfl (K.toList.map Kf) _ o O rfl X ?_)
 refine R.mono ?_;rintro e w1 ⟨E,rfl,J,H⟩;have D:=ak w1 J;have P:=Hq (A2 J H);obtain⟨pr,cr,rfl,-,-⟩:=Lq H;clear o J H k0 R;go_wp2_with (refine Zr rfl 37 _ rfl w.heap.size 2 rfl (K.toList.map Kf) _ D O rfl X ?_)
 refine(T w1 P.1).mono ?_;rintro e w2 ⟨E,rfl,v,ac⟩;obtain⟨py,cy,rfl,ai,-⟩:=Lq ac;obtain⟨px,cx,ex,ah,-⟩:=Lq (P.2.below v);simp only[Z3,true_and]at ex;obtain⟨rfl,rfl⟩:=ex;have U:=Hq (NF pr py cr cy (L.map Kg) ah.vg ai.vg (by rw[Zl];have :=b.o;omega));rw[Zl]at U;have G:=Hq (A2 (P.1.behind v) (P.2.below v));clear ah ai v ac D T;go_wp2_with fail
 refine U.mono ?_;rintro e w3 ⟨rfl,j⟩;have f:=b.1.frame (G.1.behind j);have y:∀g,(Value.slice pr L.length cr).ownBlock=some g->W0.heap.size<=g:=λg c=>(G.2.block g c).1;have N:∀g,W0.heap.size<=g->¬Nv bw q g:=λg c I=>by have :=(b.1.ln I).2;omega
 have al:=Hq (XT f.heap f.ot f.bt (G.2.below j) (λg c=>⟨λe=>N g (y g c) (.inl e),λe=>N g (y g c) (.inr (.inr (.inr e)))⟩) (by have :=b.o;omega) (by have :=b.o;omega) (by have :=b.o;omega) f.wa.le (Z2 G.1.size j.size));have F:=Hq (A3 f (G.1.behind j) y);clear f y N j;go_wp2_with fail
 refine al.mono ?_;rintro e w4 ⟨rfl,V⟩;obtain⟨t',x,aj,ag⟩:=F.1.book V (λg c=>by
  have m:=F.2.2 g c;exact⟨Z2 b.1.wa.le m,b.1.wa.fresh m,λI=>by have :=(b.1.ln I).2;omega,λp hp hh=>by have :=(b.1.qi p hp).lt hh;omega⟩) λe he g c hl=>by
  have m:=F.2.2 g hl;have :=((b.1.Cq e he).1.ap g c).1;omega
 have HE:Hid (Below B w w4/\∃t x,WM B S w4 bw ⟨q.x,q.z,t,q.es++[x],q.n+1⟩ ps):=⟨((b.2.2.1.mono b.2.1.wa.le).trans ((F.2.1.x λ_=>False).below b.1.wa λ_ h=>h.elim)).trans (ag.below F.1.wa λk hk=>hk.elim (λI=>(b.1.ln I).1) λhl=>Z2 b.1.wa.le (F.2.2 k hl)),t',x,aj⟩;clear V aj ag;go_wp2;go_ret;exact⟨rfl,HE.o⟩
theorem SQ(X:Option (Da×Da)):∃(x y:Da) (b:Bool),Uc X=Wa #[La x,La y,Oa b]:=by rcases X with _|⟨x,y⟩<;>exact⟨_,_,_,rfl⟩
variable{l:List Da}
theorem Ie.frame{g:Nat}(h:Ie w g l)(hf:Fr B S S w W)(hg:S g=none):Ie W g l:=⟨Zm h.1 hf.size,zc h.2 (hf.other g h.1 hg)⟩
theorem tF{p:Option Addr}{c:Nat}(h:Nf w p l c)(hf:Fr B S S w W)(hn:∀a,0<l.length->p=some a->S a.block=none):Nf W p l c:=by
 rcases h with h|⟨g,o,e1,e2,e3,e4⟩;.exact .inl h
 .refine .inr ⟨g,o,e1,e2,λh=>Zm (e3 h) hf.size,?_⟩;by_cases b:0<l.length;.exact zc e4 (hf.other g (e3 b) (hn _ b e1))
  .rw[show l=[]from Vv.1 (by omega)];intro j u d;simp at d
theorem eN{bw:Nat}{q:Bs}{p:Pq}{a:Int}{fl:Bool}{c1 n2 c2:Nat}(hw:WM B S w bw q ps)(hp:p∈ps)(hT:qb w)(hM:16<=B)(hl:p.l.length<=2097151)(ho:Uq C 17 a K s fl h ad p1 p2 l.length c1 n2 c2)(hr:Nf w p1 l c1)(hrS:∀a,0<l.length->p1=some a->S a.block=none)(hln:l.length<=1048576)(hlz:∀x∈l,x.size<=1048576):Calls oa 20 #[Qa (some ⟨bw,0,none⟩),Sa C,Qa (some ⟨p.bx,0,none⟩),Qa (some ⟨p.bz,0,none⟩)] w λe w'=>e=na (Oa true)/\Below B w w'/\WM B S w' bw q ps:=by
 have ah:=Mb ho.k.len
 have Z:=underlying37;obtain⟨W0,f⟩:=nm (w.alloc (ma C 50));have m:Ba w W0:=by rw[<-f];exact(Zb _ _).alloc (Za _) _
 have k0:W0.cell? ⟨w.heap.size,0,none⟩=some (Ia ka 17):=by rw[<-f,Ze];exact ho.k.k
 have o:W0.cell? ⟨w.heap.size,69,none⟩=some (Ma p1 l.length c1):=by rw[<-f,Ze];exact ho.t.l
 have Y:W0.rangeAt w.heap.size 2 (K.toList.map Kf):=by rw[<-f];exact ho.t.key.new w _
 have d:Hid (∀W,Fr B S S W0 W->W.rangeAt w.heap.size 2 (K.toList.map Kf)/\W.cell? ⟨w.heap.size,69,none⟩=some (Ma p1 l.length c1)):=λW b=>⟨zc Y (OA hw.wa f b),(Zc (OA hw.wa f b)).trans o⟩;have i:=hw.behind m;have ak:=hT.below m (Z2 hM hw.wa.le);have E:=Sh hr m;obtain⟨t,ht,hc,v⟩:=(i.qi p hp).t.ex;obtain⟨L,J⟩:=nm (t.Qg (Kg (Kl K.toList)));obtain⟨k1,k2,k3⟩:=xo ho.k.len ho.k.bytes;have P:Hc 65 p.l (Kg (Kl K.toList)) []=L:=by rw[<-J];exact OB hc (i.qi p hp).row v k1 k3
 have ao:L.length<=65:=by rw[<-J];exact Fy _ _
 have ai:∀x∈L,x.length<=1048576:=λx hx=>by rw[<-P]at hx;have :=aC 65 _ _ _ (i.qi p hp).ok (by simp) x hx;omega
 have Q:(L.map Kg).map Ke=L:=by
  rw[Xx];conv=>rhs;rw[<-List.map_id L]
  exact Vs λc aq=>qg (GH (by rw[k1];exact hc) (by omega) c (by rw[J];exact aq))
 have ae:Ul (Ey (Pz L) (Pz (l.map Ke)))=Uc (Rp (P9 (L.map Kg)) (P9 l)):=by rw[<-Q,iE,iE,uH,Q]
 obtain⟨x,y,bb,ac⟩:=SQ (Rp (P9 (L.map Kg)) (P9 l));have D:Hid (∀W g,Fr B S S W0 W->Ie W g l->S g=none->Calls oa 65 #[Qa (some ⟨p.bx,0,none⟩),Sa (K.toList.map Kf).toArray,Ma (some ⟨g,0,none⟩) l.length (l.length+2)] W λe w'=>e=na (Wa #[La x,La y,Oa bb])/\Fr B S S W w'):=λW g b N v=>by rw[<-ac,<-ae];exact vR b.wa (b.Fg i.wa ak hM) hM (ht.frame b) hc ho.k.len ho.k.bytes _ l _ N.row (λa e=>by cases e;exact v) (by omega) hlz J
 have I:Hid (∀W,Fr B S S W0 W->Calls oa 66 #[Qa (some ⟨p.bz,0,none⟩),Sa (K.toList.map Kf).toArray,Ma p1 l.length c1] W λe w'=>e=na (Wa #[La x,La y,Oa bb])/\Ba W w'):=λW b=>by have h1:=(i.frame b).qi p hp;rw[<-ac];exact PR h1.r (by omega) h1.ok h1.row ho.k.len ho.k.bytes p1 c1 l (tF E b hrS) hln hlz P (by omega) ai
 have z:=Hq (Ly p1 c1 l E hln);have H:Hid (∀W g,Fr B S S W0 W->Ie W g l->Calls oa 45 #[Ma (some ⟨g,0,none⟩) (l.length+2) (l.length+2),Ma p1 l.length c1] W λe w'=>e=na (Oa true)/\Ba W w'):=λW g b N=>qw p1 c1 g l (tF E b hrS) N hln;have G:=Hq (A4 i hw m hln);obtain⟨n,hn⟩:=nm l.length;obtain⟨nn,X⟩:=nm (n+2);have HN:=Hq (A2 (by omega :n<=1048576) X);have i1:(n:Int)<=(nn:Int):=by omega
 rw[hn]at o d D I z H;rw[X]at D z H;clear hw hp hT hl ho m i ak ht hc v J P k1 k2 k3 ao ai Q ae ac hr hrS hln hlz E hn X;go_enter func20,ntmps20;go_upto_region 1 with fail
 clear f;go_wp2_with fail
 refine z.mono ?_;rintro e w1 ⟨rfl,O,al⟩;obtain⟨g,v⟩:=nm W0.heap.size;rw[v]at O⊢;have aj:S g=none:=G.1.wa.fresh (by omega);have j:=Hq (A3 (Fr.xa G.1.wa al) O aj);clear O al v aj k0 o Y z;go_upto_region 10 with fail
 refine ml (C:=λW=>Fr B S S w1 W) (by kernel_rfl) (by kernel_rfl) (Fr.xa j.1.wa (Zb _ _).drew) ?_;go_big_quiet_step (fail)
 go_big_quiet_step (exact λ_=>rfl)
 refine BigFrame.wpQuiet_want rfl λKq ag=>Wx 37 _ rfl w.heap.size 2 rfl (K.toList.map Kf) _ (λW b=>(d W (j.1.trans b)).1) Z rfl ah (ag _ ?_);clear Kq ag;simp only[Act.put,Yn,Y9,Yw];go_big_quiet_step (fail)
 go_big_quiet_step (exact λ_=>rfl)
 go_big_quiet_step ((intro b;rw[(d.o _ (j.1.trans b)).2];exact⟨rfl,rfl⟩))
 go_big_quiet_step (exact λ_=>rfl)
 go_big_quiet_step (exact λ_=>rfl)
 go_big_quiet_step (exact λb=>(D _ g (j.1.trans b) (j.2.1.frame b j.2.2) j.2.2).mono λe w' h=>⟨h.1,b.trans h.2⟩)
 iterate 7 (go_big_quiet_step (exact λ_=>rfl))
 refine X4 λw2 T=>?_;have u:=j.1.trans T;obtain⟨F,o⟩:=d w2 u;have H2:=Hq (A2 u (j.2.1.frame T j.2.2));clear T u D;go_wp2_with (refine Zr rfl 37 _ rfl w.heap.size 2 rfl (K.toList.map Kf) _ F Z rfl ah ?_)
 refine(I w2 H2.1).mono ?_;rintro e w3 ⟨rfl,R⟩;have U:=H2.1.behind R;have o:=(d w3 U).2;have H3:=Hq (A2 U (H2.2.below R));clear R U F I;go_wp2_with fail
 refine(H w3 g H3.1 H3.2).mono ?_;rintro e w4 ⟨rfl,am⟩;have V:=H3.1.behind am;have HE:=Hq (A2 ((G.2.2.1.mono G.2.1.wa.le).trans ((V.x λ_=>False).below G.1.wa λ_ h=>h.elim)) (G.1.frame V));clear am V;go_wp2;go_ret;exact⟨rfl,HE.o⟩
end
end Go.Proofs.YtpfbdlnibdfcoaaGreatDoor
