import Derived.Test.YtpfbdlnibdfcoaaGreatDoorPvTreG
namespace Go.Proofs.YtpfbdlnibdfcoaaGreatDoor
open Go.RowKit Tryz
open Value renaming int->Ia,string->La,slice->Ma,bool->Oa,pointer->Qa,agg->Sa,tuple->Wa,iface->ca,nilIface->da
open IntKind renaming i64->ka
open Obj renaming cells->ma
open Ending renaming returned->na
open Tryz renaming prog->oa
set_option maxRecDepth 100000
set_option maxHeartbeats 0
abbrev H0:Value:=Sa #[Ia ka 0,Ia ka 0,Oa false,La ⟨#[]⟩,Ma none 0 0]
abbrev Pw(at_:Nat)(ev:Value):Value:=ca 215 (Sa #[Ia ka (at_:Int),ev])
variable{w1 w2:Fa}{o1:Obj}{v:Value}
theorem Su{o2:Obj}(hb:Below ((w1.alloc o1).alloc o2).heap.size ((w1.alloc o1).alloc o2) w2){g j:Nat}(hp:g<w1.heap.size)(hc:w1.cell? ⟨g,j,none⟩=some v/\w1.frozen? ⟨g,j,none⟩=false):w2.cell? ⟨g,j,none⟩=some v/\w2.frozen? ⟨g,j,none⟩=false:=⟨((hb.cell (p:=⟨g,j,none⟩) (by simp;omega)).trans ((Z8 _ _ _ (by simp;omega)).trans (Z8 _ _ _ hp))).trans hc.1,((hb.frozen (p:=⟨g,j,none⟩) (by simp;omega)).trans ((Vr _ _ _ (by simp;omega)).trans (Vr _ _ _ hp))).trans hc.2⟩
variable{cs:Array Value}
theorem Lv{t:TypeId}(hb:Below ((w1.alloc o1).alloc (ma cs t)).heap.size ((w1.alloc o1).alloc (ma cs t)) w2)(j:Nat)(h:cs[j]? =some v):w2.cell? ⟨w1.heap.size+1,j,none⟩=some v/\w2.frozen? ⟨w1.heap.size+1,j,none⟩=false:=by
 have e:w1.heap.size+1=(w1.alloc o1).heap.size:=by simp
 rw[e];exact Bf hb j h
theorem Wj(a b:Nat)(h:a+b<=1048576):wrap64 ((a:Int)+(b:Int))=((a+b:Nat):Int):=by unfold wrap64;omega
theorem PK(s:Da)(fr lists:Nat)(w:Fa)(l:Bool)(te:TypeId)(pe:Value)(h1:(fr:Int)<=(s.size:Int))(cut:Da)(hx:s.extract fr s.size=cut)(hN:∀W,Ba w W->Calls oa 197 #[La cut] W λe w'=>Ba W w'/\e=na (Wa #[Gk l 0 0,ca te pe])):Calls oa 172 #[La s,Ia ka (fr:Int),Ia ka (lists:Int)] w λe w'=>Ba w w'/\e=na (Wa #[H0,Pw fr (ca te pe)]):=by
 have f:=Hq hN;clear hN;go_enter func172,ntmps172;go_wp2_with fail
 refine(f _ ((Zb _ _).alloc (Za _) _)).mono ?_;rintro e c ⟨a,rfl⟩;obtain⟨g,n⟩:=Bf a 0 (v:=Ia ka 0) rfl;obtain⟨h,o⟩:=Bf a 1 (v:=Ia ka 0) rfl;obtain⟨i,p⟩:=Bf a 2 (v:=Oa false) rfl;obtain⟨j,q⟩:=Bf a 3 (v:=La ⟨#[]⟩) rfl;obtain⟨k,r⟩:=Bf a 4 (v:=Ma none 0 0) rfl;have d:Aside (Ba w c):=((Zb w.heap.size w).alloc (Za _) _).trans (a.mono (by simp));have b:w.heap.size<c.heap.size:=by have :=a.size;simp at this;omega
 have m:=Nat.ne_of_lt b;clear a;go_wp2;refine Zv (v:=Wa #[H0,Pw fr (ca te pe)]) (by simp[results,results172,go_sem,b,g,h,i,j,k]) rfl ⟨?_,rfl⟩;exact(((((d.setCell (Za _) _).setCell (Za _) _).setCell (Za _) _).setCell (Za _) _).setCell (Za _) _).alloc (by simp;omega) _
theorem QP(s:Da)(fr lists a b bh ra:Nat)(w:Fa)(h1:(fr:Int)<=(s.size:Int))(cut:Da)(hx:s.extract fr s.size=cut)(hN:∀W,Ba w W->Calls oa 197 #[La cut] W λe w'=>Ba W w'/\e=na (Wa #[Gk false a b,da]))(e1:wrap64 ((fr:Int)+(a:Int))=(bh:Int))(e2:wrap64 ((bh:Int)+(b:Int))=(ra:Int))(i1:(bh:Int)<=(ra:Int))(i2:(ra:Int)<=(s.size:Int)):Calls oa 172 #[La s,Ia ka (fr:Int),Ia ka (lists:Int)] w λe w'=>Ba w w'/\e=na (Wa #[Ea ⟨fr,ra,false,s.extract bh ra,Ma none 0 0⟩,da]):=by
 have h:=Hq hN;clear hN;go_enter func172,ntmps172;go_wp2_with fail
 refine(h _ ((Zb _ _).alloc (Za _) _)).mono ?_;rintro e f ⟨c,rfl⟩;obtain⟨i,o⟩:=Bf c 0 (v:=Ia ka 0) rfl;obtain⟨j,p⟩:=Bf c 1 (v:=Ia ka 0) rfl;obtain⟨k,q⟩:=Bf c 2 (v:=Oa false) rfl;obtain⟨l,r⟩:=Bf c 3 (v:=La ⟨#[]⟩) rfl;obtain⟨m,t⟩:=Bf c 4 (v:=Ma none 0 0) rfl;have g:Aside (Ba w f):=((Zb w.heap.size w).alloc (Za _) _).trans (c.mono (by simp));have d:w.heap.size<f.heap.size:=by have :=c.size;simp at this;omega
 have n:=Nat.ne_of_lt d;clear c;go_wp2;refine Zv (v:=Wa #[Ea ⟨fr,ra,false,s.extract bh ra,Ma none 0 0⟩,da]) (by simp[results,results172,go_sem,d,i,j,k,l,m]) rfl ⟨?_,rfl⟩;exact((((((g.setCell (Za _) _).setCell (Za _) _).setCell (Za _) _).setCell (Za _) _).setCell (Za _) _).alloc (by simp;omega) _).alloc (by simp;omega) _
theorem tO(s:Da)(fr a b bh ra:Nat)(w:Fa)(h1:(fr:Int)<=(s.size:Int))(cut:Da)(hx:s.extract fr s.size=cut)(hN:∀W,Ba w W->Calls oa 197 #[La cut] W λe w'=>Ba W w'/\e=na (Wa #[Gk true a b,da]))(e1:wrap64 ((fr:Int)+(a:Int))=(bh:Int))(e2:wrap64 ((bh:Int)+(b:Int))=(ra:Int))(te:TypeId)(pe:Value)(hg:w.cell? ⟨0,0,none⟩=some (ca te pe))(hgl:0<w.heap.size):Calls oa 172 #[La s,Ia ka (fr:Int),Ia ka 6] w λe w'=>Ba w w'/\e=na (Wa #[H0,Pw fr (ca te pe)]):=by
 have h:=Hq hN;clear hN;go_enter func172,ntmps172;go_wp2_with fail
 refine(h _ ((Zb _ _).alloc (Za _) _)).mono ?_;rintro e d ⟨c,rfl⟩;obtain⟨i,t⟩:=Bf c 0 (v:=Ia ka 0) rfl;obtain⟨j,u⟩:=Bf c 1 (v:=Ia ka 0) rfl;obtain⟨k,x⟩:=Bf c 2 (v:=Oa false) rfl;obtain⟨l,y⟩:=Bf c 3 (v:=La ⟨#[]⟩) rfl;obtain⟨m,z⟩:=Bf c 4 (v:=Ma none 0 0) rfl;have g:Aside (Ba w d):=((Zb w.heap.size w).alloc (Za _) _).trans (c.mono (by simp));have f:w.heap.size<d.heap.size:=by have :=c.size;simp at this;omega
 have r:=Nat.ne_of_lt f;have n:=(g.cell hgl).trans hg;have o:0<d.heap.size:=by omega
 have p:0<d.heap.size+1:=by omega
 have q:¬0=w.heap.size:=by omega
 clear c;go_wp2;go_region;go_wp2;refine Zv (v:=Wa #[H0,Pw fr (ca te pe)]) (by simp[results,results172,go_sem,f,i,j,k,l,m]) rfl ⟨?_,rfl⟩;exact(((((((g.setCell (Za _) _).setCell (Za _) _).setCell (Za _) _).setCell (Za _) _).setCell (Za _) _).alloc (by simp;omega) _).alloc (by simp;omega) _).drew
theorem KT(s:Da)(fr lists l1 a b bh ra:Nat)(w:Fa)(h1:(fr:Int)<=(s.size:Int))(cut:Da)(hx:s.extract fr s.size=cut)(hN:∀W,Ba w W->Calls oa 197 #[La cut] W λe w'=>Ba W w'/\e=na (Wa #[Gk true a b,da]))(e1:wrap64 ((fr:Int)+(a:Int))=(bh:Int))(e2:wrap64 ((bh:Int)+(b:Int))=(ra:Int))(hl:((lists:Int)==6)=false)(e3:wrap64 ((lists:Int)+1)=(l1:Int))(i2:(ra:Int)<=(s.size:Int))(cut2:Da)(hx2:s.extract 0 ra=cut2)(RE:TypeId->Value->Prop)(RO:Fa->Fa->Value->Prop)(hI:∀W,Ba w W->Calls oa 198 #[La cut2,Ia ka (bh:Int),Ia ka (l1:Int)] W λe w'=>Ba W w'/\((∃t v,RE t v/\e=na (Wa #[Ma none 0 0,ca t v]))\/∃p n c,RO W w' (Ma p n c)/\e=na (Wa #[Ma p n c,da]))):Calls oa 172 #[La s,Ia ka (fr:Int),Ia ka (lists:Int)] w λe w'=>Ba w w'/\((∃t v,RE t v/\e=na (Wa #[H0,ca t v]))\/∃W w2 p n c,Ba w W/\RO W w2 (Ma p n c)/\(∀k,W.heap.size<=k->w'.heap[k]? =w2.heap[k]?)/\w'.heap.size=w2.heap.size/\w.heap.size<W.heap.size/\e=na (Wa #[Ea ⟨fr,ra,true,⟨#[]⟩,Ma p n c⟩,da])):=by
 have D:=Hq hN;have C:=Hq hI;clear hN hI;go_enter func172,ntmps172;go_wp2_with fail
 refine(D _ ((Zb _ _).alloc (Za _) _)).mono ?_;rintro e h ⟨g,rfl⟩;obtain⟨i,u⟩:=Bf g 0 (v:=Ia ka 0) rfl;obtain⟨j,x⟩:=Bf g 1 (v:=Ia ka 0) rfl;obtain⟨l,y⟩:=Bf g 2 (v:=Oa false) rfl;obtain⟨m,z⟩:=Bf g 3 (v:=La ⟨#[]⟩) rfl;obtain⟨o,B⟩:=Bf g 4 (v:=Ma none 0 0) rfl;have q:Aside (Ba w h):=((Zb w.heap.size w).alloc (Za _) _).trans (g.mono (by simp));have f:w.heap.size<h.heap.size:=by have :=g.size;simp at this;omega
 have H:=Nat.ne_of_lt f;clear g;go_wp2_with fail
 refine(C _ ((q.alloc (V1 f) _).alloc (by simp;omega) _)).mono ?_;rintro e w2 ⟨d,E⟩;obtain⟨i,u⟩:=Su d f ⟨i,u⟩;obtain⟨j,x⟩:=Su d f ⟨j,x⟩;obtain⟨l,y⟩:=Su d f ⟨l,y⟩;obtain⟨m,z⟩:=Su d f ⟨m,z⟩;obtain⟨o,B⟩:=Su d f ⟨o,B⟩;obtain⟨J,O⟩:=Lv d 0 (v:=Ia ka (fr:Int)) rfl;obtain⟨K,P⟩:=Lv d 1 (v:=Ia ka (ra:Int)) rfl;obtain⟨L,Q⟩:=Lv d 2 (v:=Oa true) rfl;obtain⟨M,R⟩:=Lv d 3 (v:=La ⟨#[]⟩) rfl;obtain⟨N,S⟩:=Lv d 4 (v:=Ma none 0 0) rfl;have A2:=Hq (A2 (((q.alloc (V1 f) _).alloc (by simp;omega) _).trans (d.mono (by simp;omega))) (by have :=d.size;simp at this;omega :h.heap.size+2<=w2.heap.size));have I:¬h.heap.size+1=w.heap.size:=by omega
 clear d;rcases E with⟨t,v,hR,rfl⟩|⟨p,n,c,hR,rfl⟩;.have r:=Hq hR;clear hR;go_wp2;refine Zv (v:=Wa #[H0,ca t v]) (by simp[results,results172,go_sem,i,j,l,m,o]) rfl ⟨?_,.inl ⟨t,v,r.o,rfl⟩⟩;exact((((((A2.1.setCell (by simp only;omega) _).setCell (Za _) _).setCell (Za _) _).setCell (Za _) _).setCell (Za _) _).setCell (Za _) _)
 .have r:=Hq hR;clear hR;go_wp2;refine Zv (v:=Wa #[Ea ⟨fr,ra,true,⟨#[]⟩,Ma p n c⟩,da]) (by simp[results,results172,go_sem,i,j,l,m,o]) rfl ⟨?_,.inr ⟨_,w2,p,n,c,(q.alloc (V1 f) _).alloc (by simp;omega) _,r.o,λk F=>?_,by simp,by simp;omega,rfl⟩⟩;.exact((((((A2.1.setCell (by simp only;omega) _).setCell (Za _) _).setCell (Za _) _).setCell (Za _) _).setCell (Za _) _).setCell (Za _) _)
  .have G:h.heap.size+2<=k:=by simpa using F
   rw[Zd _ _ _ _ (by simp only;omega),Zd _ _ _ _ (by simp only;omega),Zd _ _ _ _ (by simp only;omega),Zd _ _ _ _ (by simp only;omega),Zd _ _ _ _ (by simp only;omega),Zd _ _ _ _ (by simp only;omega)]
theorem DS:(oa.info? 204).map (λi=>(i.zero,i.size,i.bytes))=some (some H0,5,64):=by kernel_rfl
def Pf(d:Nat)(s:Da)(fr:Nat)(sent:Nat->Addr)(w:Fa)(e:Ending)(w':Fa):Prop:=Ba w w'/\(∀er,Kx d (Ke s) fr=.error er->∃t v,er.val sent=ca t v/\e=na (Wa #[H0,ca t v]))/\
  ∀x,Kx d (Ke s) fr=.ok x->∃(l:Bool) (tx:Da) (p:Option Addr) (m c:Nat),Tree Nj kP d w' (λk=>w.heap.size<=k) ⟨fr,x.ra,l,tx,Ma p m c⟩ x/\e=na (Wa #[Ea ⟨fr,x.ra,l,tx,Ma p m c⟩,da])
def Rj(d:Nat)(its:List It)(w w':Fa)(v:Value):Prop:=∃ps:List (El×It),re w' (λk=>w.heap.size<=k) v ps.length (ps.flatMap λp=>Nj p.1)/\(∀p∈ps,Tree Nj kP d w' (λk=>w.heap.size<=k) p.1 p.2)/\ps.map (·.2)=its
def Nr(d:Nat)(s:Da)(fr:Nat):Except Er (List It):=Na (Kx d (Ke s)) s.size (s.size-fr) fr
def Rs(d:Nat)(s:Da)(fr:Nat)(sent:Nat->Addr)(w:Fa)(e:Ending)(w':Fa):Prop:=Ba w w'/\(∀er,Nr d s fr=.error er->∃t v,er.val sent=ca t v/\e=na (Wa #[Ma none 0 0,ca t v]))/\
  ∀its,Nr d s fr=.ok its->∃p m c,Rj d its w w' (Ma p m c)/\e=na (Wa #[Ma p m c,da])
def Pg(its:List It):Except Er (List It)->Except Er (List It)
 | .error e=>.error e
 | .ok l=>.ok (its++l)
theorem WG(r:Except Er (List It)):Pg [] r=r:=by cases r<;>rfl
theorem oF(a b:List It)(r:Except Er (List It)):Pg a (Pg b r)=Pg (a++b) r:=by
 cases r;.rfl
 .simp[Pg]
theorem NT{rd:Nat->Except Er It}{n:Nat}(hr:∀fr x,fr<n->rd fr=.ok x->fr<x.ra):∀(k j fr:Nat),n-fr<=k->n-fr<=j->Na rd n k fr=Na rd n j fr:=by
 intro k;induction k with
 |zero=>
  intro j fr b c;cases j with
  |zero=>rfl
  |succ j=>rw[Na,Na,Zj (by omega)]
 |succ k ih=>
  intro j fr b c;by_cases a:fr<n
  .obtain⟨i,rfl⟩:∃i,j=i+1:=⟨j-1,by omega⟩;rw[Na,Na,Zo a,Zo a];cases h3:rd fr with
   |error e=>rfl
   |ok x=>have :=hr fr x a h3;simp only;rw[ih i x.ra (by omega) (by omega)]
  .cases j with
   |zero=>rw[Na,Na,Zj a]
   |succ j=>rw[Na,Na,Zj a,Zj a]
variable{d fr:Nat}{s:Da}
theorem kq{x:It}(hfr:fr<=s.size)(h:Kx d (Ke s) fr=.ok x):x.fr=fr/\fr<x.ra/\x.ra<=s.size:=by have e:=ta s;obtain⟨a,b,c,_⟩:=ss d (Ke s) fr x (sh s) (by omega) h;exact⟨a,b,by omega⟩
variable{x:Nat}
theorem VE(hx:x<s.size){y:It}(h:Kx d (Ke s) x=.ok y):Nr d s x=Pg [y] (Nr d s y.ra):=by obtain⟨_,f,g⟩:=kq (V1 hx) h;unfold Nr;obtain⟨j,b⟩:∃j,s.size-x=j+1:=⟨s.size-x-1,by omega⟩;rw[b,Na,Zo hx,h];simp only;rw[NT (λe z a c=>(kq (V1 a) c).2.1) j (s.size-y.ra) y.ra (by omega) (by omega)];cases Na (Kx d (Ke s)) s.size (s.size-y.ra) y.ra<;>rfl
theorem mE(hx:x<s.size){e:Er}(h:Kx d (Ke s) x=.error e):Nr d s x=.error e:=by unfold Nr;obtain⟨j,a⟩:∃j,s.size-x=j+1:=⟨s.size-x-1,by omega⟩;rw[a,Na,Zo hx,h]
theorem AH(hx:s.size<=x):Nr d s x=.ok []:=by unfold Nr;rw[show s.size-x=0 by omega,Na]
def Mh(d:Nat)(s:Da)(fr x:Nat)(w wr:Fa)(v:Value):Prop:=∃ps:List (El×It),Db wr w.heap.size 5 v ps.length (ps.flatMap λp=>Nj p.1)/\(∀p∈ps,Tree Nj kP d wr (λk=>(w.heap.size<=k/\v.ownBlock≠some k)/\k<wr.heap.size) p.1 p.2)/\Nr d s fr=Pg (ps.map (·.2)) (Nr d s x)/\ps.length<=x-fr/\Ba w wr/\(∀k,v.ownBlock=some k->Plain wr k)
theorem Mh.nil(d:Nat)(s:Da)(fr:Nat)(w:Fa):Mh d s fr fr w w (Ma none 0 0):=⟨[],Db.nil _ _ _,by simp,by rw[J9,WG],by simp,Zb _ _,by simp[Value.ownBlock]⟩
variable{w:Fa}
theorem Db.shape{B size:Nat}{n:Nat}{cs:List Value}(h:Db w B size v n cs):∃p m c,v=Ma p m c:=by rcases h.2 with⟨rfl,_⟩|⟨g,cap,rfl,_⟩<;>exact⟨_,_,_,rfl⟩
theorem Mh.shape{d:Nat}{s:Da}{fr x:Nat}{w wr:Fa}{v:Value}(h:Mh d s fr x w wr v):∃p m c,v=Ma p m c:=by obtain⟨b,a,_⟩:=h;exact a.shape
theorem Mh.done{wr:Fa}(h:Mh d s fr x w wr v)(hx:s.size<=x):∃its,Nr d s fr=.ok its/\Rj d its w wr v:=by obtain⟨i,c,g,b,_,_,e⟩:=h;rw[AH hx]at b;exact⟨_,b,i,c.rowAt (λk a=>(c.block k a).1) e,λp f=>Tree.Cb (λk a=>a.1.1) (Za _) (λ_ _ _=>rfl) d (g p f),by simp⟩
theorem Mh.more{wr:Fa}{v2:Value}{qs:List (El×It)}{o2:Obj}{e:El}{y:It}(ht:∀p∈qs,Tree Nj kP d wr (λk=>(w.heap.size<=k/\v.ownBlock≠some k)/\k<wr.heap.size) p.1 p.2)(hc:Nr d s fr=Pg (qs.map (·.2)) (Nr d s x))(hl:qs.length<=x-fr)(hb:Ba w wr)(hb1:Ba wr w1)(hv:∀k,v.ownBlock=some k->w.heap.size<=k/\k<wr.heap.size)(hT:Tree Nj kP d w1 (λk=>wr.heap.size<=k) e y)(hx:fr<=x)(hxs:x<s.size)(hy:Kx d (Ke s) x=.ok y)(hO:Db w2 w.heap.size 5 v2 (qs.length+1) ((qs.flatMap λp=>Nj p.1)++Nj e))(hg:((w1.alloc o1).alloc o2).grownBy w2 v.ownBlock)(hf:∀k,v2.ownBlock=some k->v.ownBlock=some k\/((w1.alloc o1).alloc o2).heap.size<=k)(hP:∀k,v2.ownBlock=some k->Plain w2 k):Mh d s fr y.ra w w2 v2:=by
 have l:=hb1.size;have j:=hb.size;have i:=hg.size;have m:=(kq (V1 hxs) hy).2.1;simp only[Yz]at i hf;have c:∀k,k<w1.heap.size->v.ownBlock≠some k->w2.heap[k]? =w1.heap[k]? :=λk a h=>(hg.block k (by simp;omega) (λe=>h e.symm)).trans ((Z0 _ _ _ (by simp;omega)).trans (Z0 _ _ _ a));refine⟨qs++[(e,y)],by simpa using hO,λp g=>?_,?_,?_,?_,hP⟩
 .rcases Yc.1 g with g|g
  .refine Tree.Cb (λk a=>?_) (by omega) (λk a f=>(c k (by omega) a.1.2).trans (hb1.block k f)) d (ht p g);refine⟨⟨a.1.1,λb=>?_⟩,by omega⟩;rcases hf k b with e3|e3;.exact a.1.2 e3
   .omega
  .obtain rfl:=Y8.1 g;refine Tree.Cb (λk a=>?_) (by omega) (λk a f=>c k f (λb=>by have :=(hv k b).2;omega)) d hT.Mm;refine⟨⟨by have :=a.1;omega,λb=>?_⟩,by omega⟩;rcases hf k b with e3|e3;.have :=(hv k e3).2;have :=a.1;omega
   .have :=a.2;omega
 .rw[hc,VE hxs hy,oF,Xk];rfl
 .simp only[Zq,Zu,Yq];omega
 .exact((hb.trans (hb1.mono j)).alloc (by omega) _|>.alloc (by simp;omega) _).trans ⟨hg.os,hg.tape,hg.output,hg.size,λk a=>hg.block k (by simp;omega) (λe=>by have :=(hv k e.symm).1;omega)⟩
theorem wg(w:Fa)(l:List Value)(t:TypeId):(w.alloc (ma l.toArray t)).rangeAt w.heap.size 0 l:=by intro j u a;rw[Zf,Ze];simpa using a
theorem IT(fr ra:Nat)(l:Bool)(tx:Da)(p:Option Addr)(m c:Nat):∀u∈Nj ⟨fr,ra,l,tx,Ma p m c⟩,u.oneCell'=true:=by intro u a;simp only[Yf,Vi,or_false]at a;rcases a with rfl|rfl|rfl|rfl|rfl<;>rfl
theorem UN(d:Nat)(s:Da)(fr l1:Nat)(sent:Nat->Addr)(w:Fa)(hs:s.size<=2048)(hfr:fr<=s.size)(hN:∀W x,Ba w W->x<=s.size->Calls oa 172 #[La s,Ia ka (x:Int),Ia ka (l1:Int)] W (Pf d s x sent W)):Calls oa 198 #[La s,Ia ka (fr:Int),Ia ka (l1:Int)] w (Rs d s fr sent w):=by
 obtain⟨i0,hi,ah,ai,aj⟩:=Xl DS;have HN:=Hq hN;have HS:=Hq hs;clear hN hs;go_enter func198,ntmps198;go_wp2;go_loopg [1,8] (s.size-fr) (λg f v wr=>∃x:Nat,fr<=x/\x<=s.size/\g=s.size-x/\f=Ia ka (x:Int)/\Mh d s fr x w wr v)
 case atStart=>exact⟨fr,Za _,hfr,rfl,rfl,Mh.nil d s fr w⟩
 case round=>
  obtain⟨x,ae,hx,rfl,rfl,F⟩:=hrel;obtain⟨D,C,z,rfl⟩:=F.shape;by_cases M:x<s.size
  .have ag:(x:Int)<(s.size:Int):=by omega
   have u:Aside (Mh d s fr x w wr (Ma D C z)):=F;have b:Ba w wr:=by obtain⟨_,_,_,_,_,h,_⟩:=F;exact h
   clear F;go_wp2_with fail
   refine(HN _ x b hx).mono ?_;rintro e j ⟨a,I,J⟩;rcases hr:Kx d (Ke s) x with O|y
   .obtain⟨t,v,B,rfl⟩:=I O hr;have i:Aside (Nr d s fr=.error O/\O.val sent=ca t v/\Ba w j):=by obtain⟨E,_,_,R,_⟩:=u.o;exact⟨by rw[R,mE M hr];rfl,B,b.trans (a.mono b.size)⟩
    clear B a b I J hr;go_wp2;go_ret2;refine⟨i.2.2.alloc i.2.2.size _,λam n=>?_,λak n=>?_⟩;.rw[i.1]at n;cases n;exact⟨t,v,i.2.1,rfl⟩
    .rw[i.1]at n;cases n
   .obtain⟨l,T,p,m,c,Y,rfl⟩:=J y hr;obtain⟨h0,P,Q⟩:=kq hx hr;obtain⟨ra,N⟩:=nm y.ra;rw[N]at Y P Q⊢;obtain⟨E,X,ht,R,hl,_,hP⟩:=u.o;have B:=X.block;have Z:Hid (∀o q,Db ((j.alloc o).alloc q) w.heap.size 5 (Ma D C z) E.length (E.flatMap λp=>Nj p.1)):=λo q=>((X.below a).alloc o).alloc q;have i:=Hq (A2 (by have :=HS.o;omega :E.length<=2048) (Z2 b.size a.size));have A2:Aside (∀{r:Fa} {G:Value} {o q:Obj},Db r w.heap.size 5 G (E.length+1) ((E.flatMap λp=>Nj p.1)++Nj ⟨x,ra,l,T,Ma p m c⟩)->((j.alloc o).alloc q).grownBy r (Value.slice D C z).ownBlock->(∀k,G.ownBlock=some k->(Value.slice D C z).ownBlock=some k\/((j.alloc o).alloc q).heap.size<=k)->((∀k,(Value.slice D C z).ownBlock=some k->Plain ((j.alloc o).alloc q) k)->∀k,G.ownBlock=some k->Plain r k)->Mh d s fr ra w r G):=λ{r G o q} h1' h2' h3' h4'=>N▸Mh.more ht R hl b a B Y ae M hr h1' h2' h3' (h4' (λk S=>(hP k S).Cb (by have ac:=(B k S).2;have ao:=a.size;rw[Z0 _ _ _ (by simp;omega),Z0 _ _ _ (by omega),a.block k ac])));have A3:Aside (∀k,(Value.slice D C z).ownBlock=some k->k<j.heap.size):=λk S=>by have :=(B k S).2;have :=a.size;omega
    clear X ht R hl B Y hP u a b I J hr N h0;go_wp2_with (at_builtin;refine ll _ rfl _ _ 202 rfl 204 i0 H0 5 64 underlying202 hi ah ai aj rfl (by decide) w.heap.size _ E.length _ rfl (Z _ _) (j.heap.size+1) 0 1 1 (Nj ⟨x,ra,l,T,Ma p m c⟩) rfl rfl ?c1 (IT _ _ _ _ _ _ _) ?c2 ?c3 ?c4 ?_)
    case c1=>have :=wg (j.alloc (ma (Nj ⟨x,ra,l,T,Ma p m c⟩).toArray 204)) (Nj ⟨x,ra,l,T,Ma p m c⟩) 204;simpa using this
    case c2=>have :=i.1;unfold maxLen;omega
    case c3=>have :=i.1;omega
    case c4=>have :=i.2;simp;omega
    intro G r H L U V;obtain⟨p2,m2,c2,rfl⟩:=H.shape;have d1:r.cell? ⟨j.heap.size,1,none⟩=some (Ia ka (ra:Int)):=by
     refine World.grownBy.cell L ?_ (λe=>?_);.rw[Z8 _ _ _ (by simp),Ze];rfl
     .have :=A3 _ e.symm;simp at this
    have A4:Aside (Mh d s fr ra w r (Ma p2 m2 c2)):=A2 H L (by simpa using U) V;clear H L U V Z A2 A3;go_wp2;go_roundg (s.size-ra)
    case measure=>omega
    case rel=>exact⟨ra,by omega,Q,rfl,rfl,A4.o⟩
  .have ag:(s.size:Int)<=(x:Int):=by omega
   have u:=Hq (A2 F (by omega :s.size<=x));clear F M;go_wp2;go_ret2;obtain⟨ak,P,Q⟩:=u.1.done u.2;refine⟨by obtain⟨_,_,_,_,_,h,_⟩:=u.1;exact h,λO K=>?_,λal K=>?_⟩;.rw[P]at K;cases K
   .rw[P]at K;cases K;exact⟨D,C,z,Q,rfl⟩
theorem Ok(s:Da)(a b:Nat):Ke (s.extract a b)=((Ke s).drop a).take (b-a):=by unfold Ke;rw[<-J6,<-J7];congr 1;simp only[Jh,Js,V6]
theorem Qt(s:Da)(a b:Nat)(h:b<=s.size):(s.extract a b).size=b-a:=by rw[<-ta,Ok,Zx,Yi,ta];omega
theorem ez(d:Nat)(s:Da)(fr lists:Nat)(w:Fa)(l:Bool)(sent:Nat->Addr)(x:Nat)(hfr:fr<=s.size)(hN:∀W,Ba w W->Calls oa 197 #[La (s.extract fr s.size)] W λe w'=>Ba W w'/\e=na (Wa #[Gk l 0 0,(Er.base x).val sent]))(hr:Kx d (Ke s) fr=.error (.place fr (.base x))):Calls oa 172 #[La s,Ia ka (fr:Int),Ia ka (lists:Int)] w (Pf d s fr sent w):=by
 refine(PK s fr lists w l _ _ (Vk.2 hfr) _ rfl hN).mono ?_;rintro e w' ⟨b,rfl⟩;refine⟨b,λc a=>?_,λx a=>?_⟩;.rw[hr]at a;cases a;exact⟨_,_,rfl,rfl⟩
 .rw[hr]at a;cases a
theorem xG(d:Nat)(s:Da)(fr lists a b:Nat)(w:Fa)(sent:Nat->Addr)(hs:s.size<=2048)(hfr:fr<=s.size)(hok:ze ((Ke s).drop fr) false a b)(hN:∀W,Ba w W->Calls oa 197 #[La (s.extract fr s.size)] W λe w'=>Ba W w'/\e=na (Wa #[Gk false a b,da]))(hr:Kx d (Ke s) fr=.ok (.text fr (fr+a+b) (((Ke s).drop (fr+a)).take b))):Calls oa 172 #[La s,Ia ka (fr:Int),Ia ka (lists:Int)] w (Pf d s fr sent w):=by
 have f:=hok.1;have i:=hok.2.1;rw[Yi,ta]at f;refine(QP s fr lists a b (fr+a) (fr+a+b) w (Vk.2 hfr) _ rfl hN (Wj fr a (by omega)) (Wj (fr+a) b (by omega)) (Vk.2 (by omega)) (Vk.2 (by omega))).mono ?_;rintro e w' ⟨g,rfl⟩;refine⟨g,λh c=>?_,λx c=>?_⟩;.rw[hr]at c;cases c
 .rw[hr]at c;cases c;refine⟨false,_,none,0,0,Tree.text ⟨⟨rfl,rfl⟩,?_⟩ d,rfl⟩;show _=It.text fr (fr+a+b) (Ke (s.extract (fr+a) (fr+a+b)));rw[Ok,show fr+a+b-(fr+a)=b by omega]
theorem TK(sent:Nat->Addr):∀(d lists:Nat) (s:Da) (fr:Nat) (w:Fa),lists+d=6->s.size<=2048->fr<=s.size->Qb w sent->Calls oa 172 #[La s,Ia ka (fr:Int),Ia ka (lists:Int)] w (Pf d s fr sent w):=by
 intro d;induction d with
 |zero=>
  intro lists s fr w R J i j;have N:=ta s;have D:Ke (s.extract fr s.size)=(Ke s).drop fr:=by rw[Ok,Zz];rw[Yi];omega
  have No:=Qt s fr s.size (Za _);obtain rfl:lists=6:=by omega
  have B:=WI (s.extract fr s.size) w _ _ _ (j.var 2 (by decide)) (j.var 3 (by decide)) (j.low (n:=2) (by decide)) (j.low (n:=3) (by decide)) (by omega);rw[D]at B;cases hh:Ny ((Ke s).drop fr)with
  |error x=>
   obtain⟨l,T,E,o⟩:=B.1 x hh;have f:Kx 0 (Ke s) fr=.error (.place fr (.base x)):=by rw[Kx,hh]
   rcases E with⟨rfl,rfl⟩|⟨rfl,rfl⟩;.exact ez 0 s fr 6 w l sent 2 i o f
   .exact ez 0 s fr 6 w l sent 3 i o f
  |ok p=>
   obtain⟨l,a,b⟩:=p;have o:=B.2 l a b hh;have u:=jv (Iu (sh s) fr) hh;have z:=u.1;rw[Yi]at z;cases l with
   |false=>exact xG 0 s fr 6 a b w sent J i u o (by rw[Kx,hh];rfl)
   |true=>
    have f:Kx 0 (Ke s) fr=.error (.place fr (.base 5)):=by rw[Kx,hh];rfl
    refine(tO s fr a b (fr+a) (fr+a+b) w (Vk.2 i) _ rfl o (Wj fr a (by omega)) (Wj (fr+a) b (by omega)) _ _ (j.var 5 (by decide)) (j.low (n:=5) (by decide))).mono ?_;rintro e G ⟨C,rfl⟩;refine⟨C,λy g=>?_,λx g=>?_⟩;.rw[f]at g;cases g;exact⟨_,_,rfl,rfl⟩
    .rw[f]at g;cases g
 |succ d ih=>
  intro lists s fr w R J i j;have N:=ta s;have D:Ke (s.extract fr s.size)=(Ke s).drop fr:=by rw[Ok,Zz];rw[Yi];omega
  have No:=Qt s fr s.size (Za _);have B:=WI (s.extract fr s.size) w _ _ _ (j.var 2 (by decide)) (j.var 3 (by decide)) (j.low (n:=2) (by decide)) (j.low (n:=3) (by decide)) (by omega);rw[D]at B;cases hh:Ny ((Ke s).drop fr)with
  |error x=>
   obtain⟨l,T,E,o⟩:=B.1 x hh;have f:Kx (d+1) (Ke s) fr=.error (.place fr (.base x)):=by rw[Kx,hh]
   rcases E with⟨rfl,rfl⟩|⟨rfl,rfl⟩;.exact ez (d+1) s fr lists w l sent 2 i o f
   .exact ez (d+1) s fr lists w l sent 3 i o f
  |ok p=>
   obtain⟨l,a,b⟩:=p;have o:=B.2 l a b hh;have u:=jv (Iu (sh s) fr) hh;have z:=u.1;have F:=u.2.1;rw[Yi]at z;cases l with
   |false=>exact xG (d+1) s fr lists a b w sent J i u o (by rw[Kx,hh];rfl)
   |true=>
    have O:=Qt s 0 (fr+a+b) (by omega);have H:Ke (s.extract 0 (fr+a+b))=(Ke s).take (fr+a+b):=by rw[Ok,Yx,Ka]
    have f:∀r,Nr d (s.extract 0 (fr+a+b)) (fr+a)=r->Kx (d+1) (Ke s) fr=(match r with | .error e=>.error e| .ok its=>.ok (.list fr (fr+a+b) its)):=by intro r h;unfold Nr at h;rw[H,O,Ka,show fr+a+b-(fr+a)=b by omega]at h;rw[Kx,hh];simp only[if_true];rw[h];cases r<;>rfl
    refine(KT s fr lists (lists+1) a b (fr+a) (fr+a+b) w (Vk.2 i) _ rfl o (Wj fr a (by omega)) (Wj (fr+a) b (by omega)) (by simp;omega) (Im lists (by omega)) (Vk.2 (by omega)) (s.extract 0 (fr+a+b)) rfl (λt v=>∃y:Er,Nr d (s.extract 0 (fr+a+b)) (fr+a)=.error y/\y.val sent=ca t v) (λW G v=>∃its,Nr d (s.extract 0 (fr+a+b)) (fr+a)=.ok its/\Rj d its W G v) ?_).mono ?_
    .intro W L;refine(UN d (s.extract 0 (fr+a+b)) (fr+a) (lists+1) sent W (by omega) (by omega) (λS x M V=>?_)).mono ?_;.exact ih (lists+1) _ x S (by omega) (by omega) V (j.below (Below.behind L M))
     .rintro e G ⟨C,P,Q⟩;refine⟨C,?_⟩;rcases hi:Nr d (s.extract 0 (fr+a+b)) (fr+a)with y|its;.obtain⟨t,v,z,F⟩:=P y hi;exact .inl ⟨t,v,⟨y,rfl,z⟩,F⟩
      .obtain⟨p,m,c,z,F⟩:=Q its hi;exact .inr ⟨p,m,c,⟨its,rfl,z⟩,F⟩
    .rintro e G ⟨C,U⟩;refine⟨C,?_⟩;rcases U with⟨t,v,⟨y,hi,hv⟩,rfl⟩|⟨W,w2,p,m,c,L,⟨its,hi,qs,I,ht,hc⟩,hk,hsz,hlt,rfl⟩
     .have f:=f _ hi;simp only at f;refine⟨λK g=>?_,λx g=>?_⟩;.rw[f]at g;cases g;exact⟨t,v,hv,rfl⟩
      .rw[f]at g;cases g
     .have f:=f _ hi;simp only at f;refine⟨λK g=>?_,λx g=>?_⟩;.rw[f]at g;cases g
      .rw[f]at g;cases g;exact⟨true,_,p,m,c,.inr ⟨rfl,qs,I.Cb (λk h=>by omega) (by omega) (λk h _=>hk k h),λq I=>Tree.Cb (λk h=>by omega) (by omega) (λk h _=>hk k h) d (ht q I),rfl,by rw[hc];rfl⟩,rfl⟩
theorem KJ{g:Nat}{t:TypeId}(h:w.heap[g]? =some (ma cs t (0,0)))(o:Nat)(u:Value):∃cs',(w.setCell ⟨g,o,none⟩ u).heap[g]? =some (ma cs' t (0,0))/\cs'.size=cs.size:=by refine⟨cs.setIfInBounds o u,?_,by simp⟩;simp only[World.setCell,Array.getElem?_modify,if_true,h,Vp,Option.isSome_none,Bool.false_eq_true,if_false]
theorem CJ{g:Nat}{t:TypeId}:∀(vs:List Value) (o:Nat) {w:Fa} {cs:Array Value},w.heap[g]? =some (ma cs t (0,0))->∃cs',(w.setCells g o vs).heap[g]? =some (ma cs' t (0,0))/\cs'.size=cs.size
 | [],_,_,cs,h=>⟨cs,h,rfl⟩
 |v::r,o,_,_,h=>by obtain⟨c1,h1,e1⟩:=KJ h o v;obtain⟨c2,h2,e2⟩:=CJ r (o+1) h1;exact⟨c2,h2,e2.trans e1⟩
theorem lT(s:Da):(⟨s.data.toList.toArray⟩:Da)=s:=by apply ByteArray.ext;simp
theorem kT(s:Da)(w:Fa)(hs:s.size<=1048576):Calls oa 194 #[La s] w λe w'=>e=na (La s)/\Ba w w':=by
 by_cases q:s.size=0;.have hs:=ByteArray.ext (Array.eq_empty_of_size_eq_zero q);subst hs;go_enter func194,ntmps194;go_wp2;go_ret;exact⟨rfl,Zb _ _⟩
 .obtain⟨C,o,z,d,B⟩:=Xl um;have f:(oa.info? 5).map (·.size)=some 1:=by rw[o];simp[d]
  have v:oa.cellsOf 5=1:=by simp[Program.cellsOf,o,d]
  obtain⟨M,m⟩:=nm (madeCells (Value.int .u8 0).cells (((s.size:Nat):Int).toNat*C.size));have r:M.size=s.size:=by rw[<-m,size_madeCells,d];simp
  have L:∀W:Fa,(Instr.makeSlice 116 (Ia ka (s.size:Int)) (Ia ka (s.size:Int))).run oa W=.ok (Ma (some ⟨W.heap.size,0,none⟩) s.size s.size) (W.alloc (ma M 5)):=λW=>by have h:=run_make (P:=oa) W 116 5 C (Ia .u8 0) underlying116 o z ka ka (s.size:Int) (s.size:Int) (by omega) (by omega) (by rw[B];omega) (by omega);rw[m]at h;simpa using h
  have u:=ta s;have c:(w.alloc (ma M 5)).there w.heap.size 0 s.size:=λj D=>⟨by rw[Zf,Ze];simp[r,D],Xg _ _ _ _⟩;have i:=bC (P:=oa) (w.alloc (ma M 5)) 116 9 3 5 w.heap.size 0 s.size s.size s s.size underlying116 f (Nat.min_self _).symm c;rw[Zz (by omega)]at i;obtain⟨Y,n,K⟩:=CJ ((Ke s).map Kf) 0 (heap_alloc_new w (ma M 5));have a:=Zn (w.alloc (ma M 5)) w.heap.size 0 ((Ke s).map Kf) (by rw[Zl,u];exact c);obtain⟨W2,b⟩:=nm ((w.alloc (ma M 5)).setCells w.heap.size 0 ((Ke s).map Kf));have g:Ba w W2:=by rw[<-b];obtain⟨G,H,I,J⟩:=Og w.heap.size ((Ke s).map Kf) 0 (w.alloc (ma M 5));exact⟨H,I,J,by rw[G];simp,λk E=>(Qf _ _ _ _ _ (by omega)).trans (Z0 _ _ _ E)⟩
  rw[b]at i n a;have l:s.data.toList.length=s.size:=by simp
  have y:s.data.toList≠[]:=λe=>q (by rw[<-l,e];rfl);have t:=Lib.run_unsafeString_row (P:=oa) W2 363 3 9 5 underlying363 v w.heap.size Y.size (by unfold World.shape?;rw[n]) s.data.toList y (by omega) (by omega) (λj x F=>by rw[X7];refine a j _ ?_;unfold Ke;rw[Xx,Yt,F];rfl);rw[l,lT]at t;have A:Aside (Ba w W2):=g;clear n a b m g c;go_enter func194,ntmps194;go_wp2;go_ret;exact⟨rfl,Lib.below_freeze A (p:=⟨w.heap.size,0,none⟩) (Za _) _⟩
theorem Bz(s:Da)(w:Fa)(hs:s.size<=1048576):Calls oa 158 #[La s] w λe w'=>e=na (La s)/\Ba w w':=by
 go_enter func158,ntmps158;go_wp2_with (go_at_call 194;refine(kT s _ hs).mono ?_;rintro e b ⟨rfl,a⟩)
 go_ret;exact⟨rfl,a⟩
end Go.Proofs.YtpfbdlnibdfcoaaGreatDoor
