import Derived.Test.YtpfbdlnibdfcoaaGreatDoorPvVeA
namespace Go.Proofs.YtpfbdlnibdfcoaaGreatDoor
open Go.RowKit Tryz
open Value renaming int->Ia,string->La,slice->Ma,bool->Oa,pointer->Qa,agg->Sa,tuple->Wa,iface->ca,nilIface->da
open IntKind renaming i64->ka
open Obj renaming cells->ma
open Ending renaming returned->na
open Tryz renaming prog->oa
set_option maxRecDepth 100000
set_option maxHeartbeats 0
def Gr(B:Nat)(S S':Bb)(w w':Fa):Prop:=Ba w w'/\Fr B S S' w w'
theorem Gr.xa{B:Nat}{S:Bb}{w w':Fa}(hf:ua B S w)(hb:Ba w w'):Gr B S S w w':=⟨hb,Fr.xa hf hb⟩
theorem Gr.trans{B:Nat}{S S1 S2:Bb}{w w1 w2:Fa}(h:Gr B S S1 w w1)(k:Gr B S1 S2 w1 w2):Gr B S S2 w w2:=⟨Below.behind h.1 k.1,h.2.trans k.2⟩
variable{B:Nat}{S:Bb}{w w1:Fa}
theorem Gr.after{S':Bb}{w2:Fa}(hf:ua B S w)(hb:Ba w w1)(h:Gr B S S' w1 w2):Gr B S S' w w2:=(Gr.xa hf hb).trans h
theorem Gr.alloc{B:Nat}{S:Bb}{w:Fa}(hf:ua B S w){t:Nd}{h:Da}{r:List Value}(hh:Bd t h)(hr:Mg S t r)(ht:t.ok):Gr B S (S.put w.heap.size t) w (w.alloc (ma (La h::r).toArray (Ev t))):=⟨(Zb _ _).alloc (Za _) _,Fr.alloc hf hh hr ht⟩
def Lc(sent:Nat->Addr)(B:Nat)(S:Bb)(w:Fa)(q:Except Er Nd)(e:Ending)(w':Fa):Prop:=(∃er:Er,q=.error er/\e=na (Wa #[da,er.val sent])/\Ba w w')\/∃t v S',q=.ok t/\e=na (Wa #[v,da])/\t≠ .no/\od S' v t/\Gr B S S' w w'
theorem Lc.after{sent:Nat->Addr}{B:Nat}{S:Bb}{w w1:Fa}{q:Except Er Nd}(hf:ua B S w)(hb:Ba w w1){e:Ending}{w':Fa}(h:Lc sent B S w1 q e w'):Lc sent B S w q e w':=by
 rcases h with⟨er,h1,h2,h3⟩|⟨t,v,S',h1,h2,h3,h4,h5⟩;.exact .inl ⟨er,h1,h2,Below.behind hb h3⟩
 .exact .inr ⟨t,v,S',h1,h2,h3,h4,h5.after hf hb⟩
theorem GQ(sent:Nat->Addr)(fr en:Nat)(tx:Da)(p:Option Addr)(m c:Nat)(za:Nat)(hf:ua B S w)(h32:tx.size=32):Calls oa 237 #[Sa #[Ia ka (fr:Int),Ia ka (en:Int),Oa false,La tx,Ma p m c],Ia ka (za:Int)] w (Lc sent B S w (.ok (.stub (Ke tx)))):=by
 obtain⟨o,L⟩:∃o:Obj,o=ma #[Ia ka (fr:Int),Ia ka (en:Int),Oa false,La tx,Ma p m c] 204:=⟨_,rfl⟩;obtain⟨D,j⟩:=nm (Ke tx);rw[j];have d:D.length=32:=by rw[<-j,ta,h32]
 have l:∀x∈D,x<256:=by rw[<-j];exact Qk tx
 have s:(w.alloc o).heap.size=w.heap.size+1:=by simp
 have v:=Lib.run_convert_string_bytes (P:=oa) (w.alloc o) 9 116 5 tx underlying9 underlying116 underlying5;rw[h32,s]at v;obtain⟨z,q⟩:=nm (grownCap (w.alloc o) 32 0 5);rw[q]at v;have M:=λW=>oD ⟨w.heap.size+1,0,none⟩ z W;have a:=tG (w.alloc o) tx;rw[j,s]at a;have n:Below (w.alloc o).heap.size (w.alloc o) (Lib.bytesWorld (w.alloc o) 5 tx):=⟨rfl,rfl,rfl,by rw[Lib.bytesWorld_size];omega,λk K=>Lib.bytesWorld_at_old (w.alloc o) 5 tx k K⟩;generalize Lib.bytesWorld (w.alloc o) 5 tx=w2 at v a n;have E:(oa.info? 39).map (·.size)=some (D.map Kf).length:=by rw[Zl,d];kernel_rfl
 have y:=Hq (Below.up n);have J:Hid (∀W,Calls oa 142 #[Sa (D.map Kf).toArray] W λe F=>∃b,e=na (Qa (some ⟨b,0,none⟩))/\W.heap.size<=b/\Ba W F/\F.heap[b]? =some (ma [La (Kg (Kh D))].toArray 298 (0,0))):=λW=>TG D d l W;have H:=Hq (A2 d l);have I:=Hq hf;subst L;clear hf q s n j d l h32;go_enter func237,ntmps237;go_wp2_with (first| (refine Zr rfl 39 _ rfl (w.heap.size+1) 0 rfl (D.map Kf) _ a underlying39 rfl E ?_)| (go_at_call 142;refine(J _).mono ?_;rintro e G ⟨b,rfl,g,u,f⟩;have i:Hid (w2.heap.size<=b/\Ba w2 G/\G.heap[b]? =some (ma [La (Kg (Kh D))].toArray 298 (0,0))):=⟨g,u,f⟩;clear g u f))
 go_ret2;have C:=Below.behind y i.2.1;have g:=Z2 y.size i.1;refine .inr ⟨.stub D,_,S.put b (.stub D),rfl,rfl,by simp,.inr ⟨by simp,b,rfl,Bb.Ob _ _ _⟩,C,Fr.fresh I C g (t:=.stub D) (h:=Kg (Kh D)) (r:=[]) (.inl rfl) rfl (by rw[Nd.ok];exact H.o) i.2.2⟩
theorem bJ(sent:Nat->Addr)(fr en:Nat)(tx:Da)(p:Option Addr)(m c:Nat)(za:Nat)(hf:ua B S w)(q:Except Er Nd)(hN:∀W,Ba w W->Calls oa 204 #[Sa #[Ia ka (fr:Int),Ia ka (en:Int),Oa true,La tx,Ma p m c],Ia ka (za:Int)] W (Lc sent B S W q)):Calls oa 237 #[Sa #[Ia ka (fr:Int),Ia ka (en:Int),Oa true,La tx,Ma p m c],Ia ka (za:Int)] w (Lc sent B S w q):=by
 have n:=Hq hf;have o:=Hq hN;clear hf hN;go_enter func237,ntmps237;go_wp2_with fail
 have a:Ba w (w.alloc (ma #[Ia ka (fr:Int),Ia ka (en:Int),Oa true,La tx,Ma p m c] 204)):=(Zb _ _).alloc (Za _) _;refine(o _ a).mono ?_;rintro e l (⟨g,rfl,rfl,k⟩|⟨t,v,f,rfl,rfl,h,i,j⟩);.obtain⟨r,s,d⟩:=g.shape sent;have b:Hid (g.val sent=ca r s/\Ba w l):=⟨d,Below.behind a k⟩;rw[d];clear k a d;go_wp2;go_ret2;exact .inl ⟨g,rfl,by rw[b.1];rfl,b.2⟩
 .have b:Hid (t≠ .no/\od f v t/\Gr B S f w l):=⟨h,i,j.after n a⟩;clear h i j a;go_wp2;go_ret2;exact .inr ⟨t,v,f,rfl,rfl,b.1,b.2.1,b.2.2⟩
theorem qe{b:Nat}{a0 a1 a2 a3 a4:Value}{t:TypeId}(h:w.heap[b]? =some (ma #[a0,a1,a2,a3,a4] t (0,0))):w.cell? ⟨b,0,none⟩=some a0/\w.cell? ⟨b,1,none⟩=some a1/\w.cell? ⟨b,2,none⟩=some a2/\w.cell? ⟨b,3,none⟩=some a3/\w.cell? ⟨b,4,none⟩=some a4:=by refine⟨?_,?_,?_,?_,?_⟩<;>simp[World.cell?,h]
theorem nw{a b:Array Value}(hb:Below ((w.alloc (ma a 204)).alloc (ma b 204)).heap.size ((w.alloc (ma a 204)).alloc (ma b 204)) w1):w1.heap[w.heap.size]? =some (ma a 204 (0,0))/\w1.heap[w.heap.size+1]? =some (ma b 204 (0,0))/\w.heap.size+2<=w1.heap.size/\Ba w w1:=by
 have c:=hb.size;simp at c;refine⟨?_,?_,by omega,Below.up (Below.up hb)⟩;.rw[hb.block _ (by simp;omega)];show((w.heap.push _).push _)[w.heap.size]? =_;rw[Array.getElem?_push_lt (by simp),Array.getElem_push_eq]
 .rw[hb.block _ (by simp)];show((w.heap.push _).push _)[w.heap.size+1]? =_;rw[show w.heap.size+1=(w.heap.push (Obj.cells a 204)).size by simp];exact Z6
theorem yj(w:Fa)(a b:Obj):Ba w ((w.alloc a).alloc b):=((Zb _ _).alloc (Za _) _).alloc (by simp) _
def Sb(l:Bool)(fr en m:Nat)(tx:Da):Bool:=if l=true then decide (en-fr<32)&&decide (m=17)else decide (tx.size=32)
section
variable{B:Nat}{S:Bb}{w:Fa}(sent:Nat->Addr)(fr en:Nat)(tx0:Da)(g cap:Nat)(fr' en':Nat)(l':Bool)(tx':Da)(p':Option Addr)(m' c':Nat)(p:Da)(za:Nat)
theorem RS(hF:Qb w sent)(hgs:g<w.heap.size)(hrow:w.rangeAt g 5 [Ia ka (fr':Int),Ia ka (en':Int),Oa l',La tx',Ma p' m' c'])(hdep:za<=10000)(h1:fr'<=en')(h2:en'<=2048)(h:p.size=0\/64<=za\/Sb l' fr' en' m' tx'=false):Calls oa 234 #[Sa #[Ia ka (fr:Int),Ia ka (en:Int),Oa true,La tx0,Ma (some ⟨g,0,none⟩) 2 cap],La p,Ia ka (za:Int)] w (Lc sent B S w (.error (Ay fr))):=by
 have K:=hrow 0 _ rfl;have L:=hrow 1 _ rfl;have M:=hrow 2 _ rfl;have N:=hrow 3 _ rfl;have O:=hrow 4 _ rfl;have H:¬g=w.heap.size:=by omega
 have z:¬g=w.heap.size+1:=by omega
 have c:Hid (∀W,Ba w W->Calls oa 222 #[Sa #[Ia ka (fr:Int),Ia ka (en:Int),Oa true,La tx0,Ma (some ⟨g,0,none⟩) 2 cap]] W λe o=>e=na ((Ay fr).val sent)/\Ba W o):=λW y=>Cy fr en true tx0 _ 2 cap sent W (hF.below y);obtain⟨I,J,k⟩:=(Ay fr).shape sent;have m:=Hq k;rw[k]at c;have r:Hid (∀W,Calls oa 241 #[Sa #[Ia ka (fr':Int),Ia ka (en':Int),Oa l',La tx',Ma p' m' c']] W λe o=>e=na (Oa (if l'=true then decide (en'-fr'<32)else decide (tx'.size=32)))/\Ba W o):=λW=>TC fr' en' l' tx' p' m' c' W h1 h2;have v:Hid (Sb l' fr' en' m' tx'=if l'=true then decide (en'-fr'<32)&&decide (m'=17)else decide (tx'.size=32)):=rfl;clear hrow hF h1 h2 k;by_cases i:p.size=0
 .have F:=kw p i;clear h i;go_enter func234,ntmps234;go_wp2_with (go_at_call 222;refine(c _ (yj _ _ _)).mono ?_;rintro e n ⟨rfl,a⟩;have b:Hid (Ba w n):=(nw a).2.2.2;clear a)
  go_ret2;exact .inl ⟨_,rfl,by rw[m.o];rfl,b.o⟩
 .have F:=lj p (by omega);by_cases j:64<=za
  .have C:(64:Int)<=(za:Int):=by omega
   clear h i j;go_enter func234,ntmps234;go_wp2_with (go_at_call 222;refine(c _ (yj _ _ _)).mono ?_;rintro e n ⟨rfl,a⟩;have b:Hid (Ba w n):=(nw a).2.2.2;clear a)
   go_ret2;exact .inl ⟨_,rfl,by rw[m.o];rfl,b.o⟩
  .have C:(za:Int)<64:=by omega
   have l:Sb l' fr' en' m' tx'=false:=by
    rcases h with h|h|h;.exact absurd h i
    .exact absurd h j
    .exact h
   rw[v.o]at l;generalize hR:(if l'=true then decide (en'-fr'<32)else decide (tx'.size=32))=rr at r;have x:Hid (rr=true->l'=true/\m'≠17):=λe=>by
    subst e;cases l' with
    |true=>simp at hR l;exact⟨rfl,l (by omega)⟩
    |false=>simp at hR l;omega
   clear h i j l hR;go_enter func234,ntmps234;go_wp2_with fail
   refine(r _).mono ?_;rintro e n ⟨rfl,a⟩;obtain⟨s,t,G,u⟩:=nw a;obtain⟨P,Q,R,T,U⟩:=qe s;obtain⟨V,X,Y,Z,y4⟩:=qe t;have b:=Hq u;clear s t G u a;cases rr with
   |false=>
    go_wp2_with (go_at_call 222;refine(c _ b.o).mono ?_;rintro e q ⟨rfl,d⟩;have f:Hid (Ba w q):=Below.behind b d;clear d)
    go_ret2;exact .inl ⟨_,rfl,by rw[m.o];rfl,f.o⟩
   |true=>
    obtain⟨rfl,E⟩:=x rfl;have D:((m':Int)==17)=false:=by simp;omega
    clear E;go_wp2_with (go_at_call 222;refine(c _ b.o).mono ?_;rintro e q ⟨rfl,d⟩;have f:Hid (Ba w q):=Below.behind b d;clear d)
    go_ret2;exact .inl ⟨_,rfl,by rw[m.o];rfl,f.o⟩
def R5(p:Da):Except Er Nd->Except Er Nd
 | .error e=>.error e
 | .ok t=>.ok (.ext p t)
theorem sS(hf:ua B S w)(hgs:g<w.heap.size)(hrow:w.rangeAt g 5 [Ia ka (fr':Int),Ia ka (en':Int),Oa l',La tx',Ma p' m' c'])(hp:Oc p)(h1:fr'<=en')(h2:en'<=2048)(h0:0<p.size)(h64:za<64)(ht:Sb l' fr' en' m' tx'=true)(q:Except Er Nd)(hN:∀W,Ba w W->Calls oa 237 #[Sa #[Ia ka (fr':Int),Ia ka (en':Int),Oa l',La tx',Ma p' m' c'],Ia ka (za:Int)] W (Lc sent B S W q)):Calls oa 234 #[Sa #[Ia ka (fr:Int),Ia ka (en:Int),Oa true,La tx0,Ma (some ⟨g,0,none⟩) 2 cap],La p,Ia ka (za:Int)] w (Lc sent B S w (R5 p q)):=by
 have R:=hrow 0 _ rfl;have T:=hrow 1 _ rfl;have U:=hrow 2 _ rfl;have V:=hrow 3 _ rfl;have X:=hrow 4 _ rfl;have O:¬g=w.heap.size:=by omega
 have I:¬g=w.heap.size+1:=by omega
 have Q:=lj p h0;have P:(za:Int)<64:=by omega
 have D:=Hq hN;have z:=Hq hf;have E:=Hq hp;have s:(if l'=true then decide (en'-fr'<32)else decide (tx'.size=32))=true:=by unfold Sb at ht;cases l'<;>simp at ht⊢ <;>omega
 have F:Hid (∀W,Calls oa 241 #[Sa #[Ia ka (fr':Int),Ia ka (en':Int),Oa l',La tx',Ma p' m' c']] W λe M=>e=na (Oa true)/\Ba W M):=λW=>by have :=TC fr' en' l' tx' p' m' c' W h1 h2;rw[s]at this;exact this
 have J:(l'=true/\m'=17)\/l'=false:=by unfold Sb at ht;cases l'<;>simp at ht⊢;exact ht.2
 clear hrow hf h1 h2 s hN hp ht h0 h64;go_enter func234,ntmps234;go_wp2_with fail
 refine(F _).mono ?_;rintro e N ⟨rfl,m⟩;obtain⟨u,x,L,y⟩:=nw m;obtain⟨Y,Z,x2,x3,x4⟩:=qe u;obtain⟨y0,y1,y2,y3,y4⟩:=qe x;have o:=Hq y;clear u x L y m;have K:∀e w2,Lc sent B S N q e w2->(∃b f i,q=.error b/\b.val sent=ca f i/\e=na (Wa #[da,ca f i])/\Ba w w2)\/∃t d c,q=.ok t/\t≠ .no/\e=na (Wa #[ca (K9 t) (Qa (some ⟨d,0,none⟩)),da])/\c d=some t/\Gr B S c w w2:=by
  rintro e w2 (⟨b,h1,h2,l⟩|⟨t,v,c,h1,h2,l,G,H⟩);.obtain⟨f,i,a⟩:=b.shape sent;exact .inl ⟨b,f,i,h1,a,by rw[h2,a],Below.behind o l⟩
  .obtain⟨d,rfl,j⟩:=G.full l;exact .inr ⟨t,d,c,h1,l,h2,j,H.after z o.o⟩
 have C:=Hq K;clear K;rcases J with⟨rfl,rfl⟩|rfl;all_goals
  go_wp2_with fail
  refine(D _ o.o).mono ?_;intro e w2 h;rcases C e w2 h with⟨b,f,i,rfl,a,rfl,hb2⟩|⟨t,d,c,rfl,hne,rfl,j,hg⟩;.have k:=Hq (A2 a hb2);clear h a hb2;go_wp2;go_ret2;exact .inl ⟨b,rfl,by rw[k.1];rfl,k.2⟩
  .have n:(Nd.ext p t).ok:=by rw[Nd.ok];exact⟨E.o,hg.2.wa.ok d t j,hne⟩
   have k:Hid (Gr B S (c.put w2.heap.size (.ext p t)) w (w2.alloc (ma #[La ⟨#[]⟩,La p,ca (K9 t) (Qa (some ⟨d,0,none⟩))] 393))):=hg.trans (Gr.alloc hg.2.wa (t:=.ext p t) (h:=⟨#[]⟩) (r:=[La p,ca (K9 t) (Qa (some ⟨d,0,none⟩))]) (Bd.empty (by simp)) ⟨_,rfl,.inr ⟨hne,d,rfl,j⟩⟩ n);clear h hne j hg n;go_wp2;go_ret2;exact .inr ⟨.ext p t,_,_,rfl,rfl,by simp,.inr ⟨by simp,w2.heap.size,rfl,Bb.Ob _ _ _⟩,k.o⟩
end
def Qo(w:Fa)(ax a1 a2:Array Value)(ga gb:Nat)(wc:Fa):Prop:=wc.heap[w.heap.size]? =some (ma ax 204 (0,0))/\wc.heap[ga]? =some (ma a1 204 (0,0))/\wc.heap[gb]? =some (ma a2 204 (0,0))/\Ba w wc
theorem iF(w:Fa)(a b c:Obj):((((w.alloc a).alloc b).alloc c).drew).heap[w.heap.size]? =some a/\((((w.alloc a).alloc b).alloc c).drew).heap[w.heap.size+1]? =some b/\((((w.alloc a).alloc b).alloc c).drew).heap[w.heap.size+1+1]? =some c/\Ba w (((w.alloc a).alloc b).alloc c).drew:=by
 have d:Ba w (((w.alloc a).alloc b).alloc c):=(((Zb _ _).alloc (Za _) _).alloc (by simp) _).alloc (by simp;omega) _;refine⟨?_,?_,?_,d.os,d.tape,d.output,d.size,d.block⟩;.show(((w.heap.push a).push b).push c)[w.heap.size]? =_;rw[Array.getElem?_push_lt (by simp;omega),Array.getElem_push_lt (by simp),Array.getElem_push_eq]
 .show(((w.heap.push a).push b).push c)[w.heap.size+1]? =_;rw[Array.getElem?_push_lt (by simp),Array.getElem_push];simp
 .show(((w.heap.push a).push b).push c)[w.heap.size+1+1]? =_;rw[show w.heap.size+1+1=((w.heap.push a).push b).size by simp];exact Z6
variable{ax:Array Value}{gb:Nat}
theorem Qo.Cb{a1 a2:Array Value}{ga:Nat}{wc:Fa}(h:Qo w ax a1 a2 ga gb wc)(hb:Ba wc w1):Qo w ax a1 a2 ga gb w1:=by obtain⟨a,b,c,d⟩:=h;have k:∀{i o},wc.heap[i]? =some o->w1.heap[i]? =some o:=λ{i o} e=>(hb.block i (Zg.1 e).1).trans e;exact⟨k a,k b,k c,Below.behind d hb⟩
def G7(fr za:Nat)(l1:Bool)(tx1:Da)(l2:Bool)(f2 e2 m2:Nat)(tx2:Da)(q:Nat->Except Er Nd):Except Er Nd:=if l1=true then .error (Ay fr)
 else
  match K6 (Ke tx1)with
  |none=>.error (.place fr (.noNode (.base 3)))
  |some (p,leaf)=>
   if leaf=true then
    if za+p.length≠64\/l2=true\/(decide (0<tx2.size)&&decide (tx2.size<=100))=false then .error (Ay fr)else .ok (.leaf (Kg p) tx2)
   else if p.length=0\/64<=za+p.length\/Sb l2 f2 e2 m2 tx2=false then .error (Ay fr)else R5 (Kg p) (q (za+p.length))
theorem IF(sent:Nat->Addr)(fr en:Nat)(tx0:Da)(g cap:Nat)(f1 e1:Nat)(l1:Bool)(tx1:Da)(p1:Option Addr)(m1 c1:Nat)(f2 e2:Nat)(l2:Bool)(tx2:Da)(p2:Option Addr)(m2 c2:Nat)(za:Nat)(hf:ua B S w)(hF:Qb w sent)(hgs:g<w.heap.size)(hrow1:w.rangeAt g 0 [Ia ka (f1:Int),Ia ka (e1:Int),Oa l1,La tx1,Ma p1 m1 c1])(hrow:w.rangeAt g 5 [Ia ka (f2:Int),Ia ka (e2:Int),Oa l2,La tx2,Ma p2 m2 c2])(ht1:tx1.size<=2048)(hdep:za<=64)(h1:f2<=e2)(h2:e2<=2048)(q:Nat->Except Er Nd)(hN:∀(d:Nat) W,d<64->Sb l2 f2 e2 m2 tx2=true->Ba w W->Calls oa 237 #[Sa #[Ia ka (f2:Int),Ia ka (e2:Int),Oa l2,La tx2,Ma p2 m2 c2],Ia ka (d:Int)] W (Lc sent B S W (q d))):Calls oa 220 #[Sa #[Ia ka (fr:Int),Ia ka (en:Int),Oa true,La tx0,Ma (some ⟨g,0,none⟩) 2 cap],Ia ka (za:Int)] w (Lc sent B S w (G7 fr za l1 tx1 l2 f2 e2 m2 tx2 q)):=by
 have r0:=hrow 0 _ rfl;have r1:=hrow 1 _ rfl;have r2:=hrow 2 _ rfl;have r3:=hrow 3 _ rfl;have r4:=hrow 4 _ rfl;have s0:=hrow1 0 _ rfl;have s1:=hrow1 1 _ rfl;have s2:=hrow1 2 _ rfl;have s3:=hrow1 3 _ rfl;have s4:=hrow1 4 _ rfl;have az:¬g=w.heap.size:=by omega
 have ak:¬g=w.heap.size+1:=by omega
 have al:¬g=w.heap.size+1+1:=by omega
 have am:¬g=w.heap.size+2:=by omega
 have ao:g<w.heap.size+1:=by omega
 have aq:g<w.heap.size+1+1:=by omega
 have ar:g<w.heap.size+2:=by omega
 have s:Hid (∀W,Ba w W->Calls oa 222 #[Sa #[Ia ka (fr:Int),Ia ka (en:Int),Oa true,La tx0,Ma (some ⟨g,0,none⟩) 2 cap]] W λe F=>e=na ((Ay fr).val sent)/\Ba W F):=λW T=>Cy fr en true tx0 _ 2 cap sent W (hF.below T);obtain⟨et,ev,U⟩:=(Ay fr).shape sent;have X:=Hq U;rw[U]at s;have Y:=Hq hf;have ac:=Hq hF;have HN:=Hq hN;have Q:=Hq (A6 ht1 hdep h1 h2 hrow hgs);clear hrow hrow1 hf hF hN ht1 hdep h1 h2 U;go_enter func220,ntmps220;go_upto_region 1 with fail
 go_cut [6,7] (λa b wc=>∃ga gb,a=Qa (some ⟨ga,0,none⟩)/\b=Qa (some ⟨gb,0,none⟩)/\Qo w #[Ia ka (fr:Int),Ia ka (en:Int),Oa true,La tx0,Ma (some ⟨g,0,none⟩) 2 cap] #[Ia ka (f1:Int),Ia ka (e1:Int),Oa l1,La tx1,Ma p1 m1 c1] #[Ia ka (f2:Int),Ia ka (e2:Int),Oa l2,La tx2,Ma p2 m2 c2] ga gb wc)
 case first=>
  go_region;all_goals (try go_wp2)
  all_goals go_meet
  .obtain⟨a1,I,J,a4⟩:=iF w (ma #[Ia ka (fr:Int),Ia ka (en:Int),Oa true,La tx0,Ma (some ⟨g,0,none⟩) 2 cap] 204) (ma #[Ia ka (f1:Int),Ia ka (e1:Int),Oa l1,La tx1,Ma p1 m1 c1] 204) (ma #[Ia ka (f2:Int),Ia ka (e2:Int),Oa l2,La tx2,Ma p2 m2 c2] 204);exact⟨_,_,rfl,rfl,a1,I,J,a4⟩
  .obtain⟨a1,I,J,a4⟩:=iF w (ma #[Ia ka (fr:Int),Ia ka (en:Int),Oa true,La tx0,Ma (some ⟨g,0,none⟩) 2 cap] 204) (ma #[Ia ka (f2:Int),Ia ka (e2:Int),Oa l2,La tx2,Ma p2 m2 c2] 204) (ma #[Ia ka (f1:Int),Ia ka (e1:Int),Oa l1,La tx1,Ma p1 m1 c1] 204);exact⟨_,_,rfl,rfl,a1,J,I,a4⟩
 case rest=>
  obtain⟨ga,gb,rfl,rfl,hC⟩:=hcut;clear r0 r1 r2 r3 r4 s0 s1 s2 s3 s4 az ak al am ao aq ar hgs;have HC:=Hq hC;obtain⟨z,K,L,C⟩:=hC;obtain⟨x0,x1,x2,x3,x4⟩:=qe z;obtain⟨y0,y1,y2,y3,y4⟩:=qe K;have V:=Hq C;clear z K L C;cases l1 with
  |true=>
   have k:Hid (G7 fr za true tx1 l2 f2 e2 m2 tx2 q=.error (Ay fr)):=by unfold G7;rw[Zo rfl];exact rfl
   go_wp2_with (go_at_call 222;refine(s _ V.o).mono ?_;rintro e m ⟨rfl,i⟩;have l:Hid (Ba w m):=Below.behind V i;clear i)
   go_ret2;rw[k.o];exact .inl ⟨_,rfl,by rw[X.o];rfl,l.o⟩
  |false=>
   cases o:K6 (Ke tx1)with
   |none=>
    have k:Hid (G7 fr za false tx1 l2 f2 e2 m2 tx2 q=.error (.place fr (.noNode (.base 3)))):=by unfold G7;rw[Zj (by simp),o];exact rfl
    have O:Hid (∀W,Ba w W->Calls oa 84 #[La tx1] W λe F=>e=na (Wa #[La ⟨#[]⟩,Oa false,ca 395 (Qa (some (sent 3)))])/\Ba W F):=λW T=>UM tx1 sent W (ac.below T) o;clear o;go_wp2_with fail
    refine(O _ V.o).mono ?_;rintro e M ⟨rfl,n⟩;have ay:=HC.Cb n;obtain⟨z,K,L,C⟩:=ay;obtain⟨x0,x1,x2,x3,x4⟩:=qe z;have f:=Hq C;clear z K L C n;go_wp2;go_region;all_goals (try go_wp2)
    all_goals go_ret2
    all_goals rw[k.o]
    all_goals exact .inl ⟨_,rfl,rfl,Below.drewN f 1⟩
   |some pl=>
    obtain⟨p,r⟩:=pl;have H:G7 fr za false tx1 l2 f2 e2 m2 tx2 q=if r=true then if za+p.length≠64\/l2=true\/(decide (0<tx2.size)&&decide (tx2.size<=100))=false then .error (Ay fr)else .ok (.leaf (Kg p) tx2)else if p.length=0\/64<=za+p.length\/Sb l2 f2 e2 m2 tx2=false then .error (Ay fr)else R5 (Kg p) (q (za+p.length)):=by unfold G7;rw[Zj (by simp),o]
    have O:Hid (∀W,Ba w W->Calls oa 84 #[La tx1] W λe F=>e=na (Wa #[La (Kg p),Oa r,da])/\Ba W F):=λW _=>DJ tx1 W (by have :=Q.o;omega) p r o;obtain⟨G,_,aj⟩:=nH (Qk tx1) o;rw[ta]at aj;have HP:=Hq G;obtain⟨P,hP⟩:=nm (Kg p);have R:P.size=p.length:=by rw[<-hP,me]
    have ae:Hid (p.length<=64->Oc P):=λh=>⟨by omega,by rw[<-hP,qg (λy hy=>by have :=G y hy;omega)];exact G⟩;rw[hP]at O H;have au:p.length<=4096:=by have :=Q.o;omega
    have aw:wrap64 ((za:Int)+(P.size:Int))=((za+p.length:Nat):Int):=by rw[R];exact Wj za p.length (by have :=Q.o;omega)
    obtain⟨D,hD⟩:=nm (za+p.length);rw[hD]at aw H;have HD:=Hq (A3 hD R (by have :=Q.o;omega :D<=5000));have ag:=Hq H;clear H;clear o G aj hP R au hD;go_wp2_with fail
    refine(O _ V.o).mono ?_;rintro e M ⟨rfl,n⟩;have bc:=Hq (HC.Cb n);obtain⟨z,K,L,C⟩:=HC.Cb n;obtain⟨x0,x1,x2,x3,x4⟩:=qe z;obtain⟨z0,z1,z2,z3,z4⟩:=qe L;have f:=Hq C;clear z K L C n O;cases r with
    |false=>
     have c:=ag.o;rw[Zj (by simp)]at c;have N:Hid (Calls oa 234 #[Sa #[Ia ka (fr:Int),Ia ka (en:Int),Oa true,La tx0,Ma (some ⟨g,0,none⟩) 2 cap],La P,Ia ka (D:Int)] M (Lc sent B S M (if p.length=0\/64<=D\/Sb l2 f2 e2 m2 tx2=false then .error (Ay fr)else R5 P (q D)))):=by
      obtain⟨q1,q2,q3,q4,q5,q6⟩:=Q.o;obtain⟨d1,d2,d3⟩:=HD.o;have ah:M.rangeAt g 5 [Ia ka (f2:Int),Ia ka (e2:Int),Oa l2,La tx2,Ma p2 m2 c2]:=λj u o=>(Zc (f.block g q6)).trans (q5 j u o);have ai:=Zm q6 f.size;split
      .rename_i h
       exact RS sent fr en tx0 g cap f2 e2 l2 tx2 p2 m2 c2 P D (ac.below f.o) ai ah (by omega) q3 q4 (by rw[d2];exact h)
      .rename_i h
       have a1:0<p.length:=by
        rcases Nat.eq_zero_or_pos p.length with e|e;.exact absurd (.inl e) h
        .exact e
       have I:D<64:=by
        rcases Nat.lt_or_ge D 64 with e|e;.exact e
        .exact absurd (.inr (.inl e)) h
       have J:Sb l2 f2 e2 m2 tx2=true:=by
        cases hv:Sb l2 f2 e2 m2 tx2 with
        |true=>rfl
        |false=>exact absurd (.inr (.inr hv)) h
       exact sS sent fr en tx0 g cap f2 e2 l2 tx2 p2 m2 c2 P D (Y.below f.o) ai ah (ae (by omega)) q3 q4 (by omega) I J (q D) (λW T=>HN D W I J (Below.behind f T))
     generalize (if p.length=0\/64<=D\/Sb l2 f2 e2 m2 tx2=false then Except.error (Ay fr)else R5 P (q D))=Qd at N c;have k:=Hq c;clear c;go_wp2_with fail
     refine N.mono ?_;rintro e m (⟨er,rfl,rfl,hb⟩|⟨t,v,S',rfl,rfl,h3,h4,h5⟩);.obtain⟨bf,bi,E⟩:=er.shape sent;have x:=Hq (A2 E (Below.behind f hb));rw[E];clear hb E;go_wp2;go_ret2;rw[k.o];exact .inl ⟨er,rfl,by rw[x.1];rfl,x.2⟩
     .have x:=Hq (A3 h3 h4 (h5.after Y f.o));clear h3 h4 h5;go_wp2;go_ret2;rw[k.o];exact .inr ⟨t,v,S',rfl,rfl,x.1,x.2.1,x.2.2⟩
    |true=>
     have c:=ag.o;rw[Zo rfl]at c;have Z:Hid (∀W,Calls oa 154 #[La tx2] W λe F=>e=na (Oa (decide (0<tx2.size)&&decide (tx2.size<=100)))/\F=W):=λW=>MK tx2 W;by_cases hd:D=64
     .subst hd;cases l2 with
      |true=>
       rw[Zo (.inr (.inl rfl))]at c;have k:=Hq c;clear c;go_wp2_with (go_at_call 222;refine(s _ f.o).mono ?_;rintro e m ⟨rfl,i⟩;have l:Hid (Ba w m):=Below.behind f i;clear i)
       go_ret2;rw[k.o];exact .inl ⟨_,rfl,by rw[X.o];rfl,l.o⟩
      |false=>
       cases hv:(decide (0<tx2.size)&&decide (tx2.size<=100))with
       |false=>
        rw[Zo (.inr (.inr hv))]at c;have k:=Hq c;clear c;rw[hv]at Z;clear hv;go_wp2_with (first| (go_at_call 154;refine(Z _).mono ?_;rintro e m ⟨rfl,rfl⟩)| (go_at_call 222;refine(s _ f.o).mono ?_;rintro e m ⟨rfl,i⟩;have l:Hid (Ba w m):=Below.behind f i;clear i))
        go_ret2;rw[k.o];exact .inl ⟨_,rfl,by rw[X.o];rfl,l.o⟩
       |true=>
        rw[Zj (by rw[hv];simp)]at c;have k:=Hq c;clear c;rw[hv]at Z;have ba:tx2.size<=100:=by simp at hv;omega
        have x:Hid (Gr B S (S.put M.heap.size (.leaf P tx2)) w (M.alloc (ma #[La ⟨#[]⟩,La P,La tx2] 304))):=Gr.after Y f ⟨(Zb _ _).alloc (Za _) _,Fr.leaf (Y.below f.o) (ae (by have :=HD.o;omega)) (by omega)⟩;clear hv ba;go_wp2_with (first| (go_at_call 154;refine(Z _).mono ?_;rintro e m ⟨rfl,rfl⟩))
        go_ret2;rw[k.o];exact .inr ⟨.leaf P tx2,_,_,rfl,rfl,by simp,.inr ⟨by simp,_,rfl,Bb.Ob _ _ _⟩,x.o⟩
     .have bj:¬((D:Int)=64):=by omega
      have bl:((D:Int)==64)=false:=by simp;omega
      rw[Zo (.inl hd)]at c;have k:=Hq c;clear c;go_wp2_with (go_at_call 222;refine(s _ f.o).mono ?_;rintro e m ⟨rfl,i⟩;have l:Hid (Ba w m):=Below.behind f i;clear i)
      go_ret2;rw[k.o];exact .inl ⟨_,rfl,by rw[X.o];rfl,l.o⟩
def Fi(w:Fa)(g:Nat)(es:List El):Prop:=g<w.heap.size/\∀i (hi:i<es.length),w.rangeAt g (i*5) (Nj es[i])/\∃p m c,es[i].sub=Ma p m c
variable{es:List El}
theorem Fi.below{w':Fa}{g:Nat}(h:Fi w g es)(hb:Ba w w'):Fi w' g es:=⟨Zm h.1 hb.size,λi hi=>⟨λj u hu=>(Zc (hb.block g h.1)).trans ((h.2 i hi).1 j u hu),(h.2 i hi).2⟩⟩
theorem Fi.at{w:Fa}{g:Nat}{es:List El}(h:Fi w g es){i:Nat}(hi:i<es.length):∃f e l tx p m c,es[i]=⟨f,e,l,tx,Ma p m c⟩/\w.cell? ⟨g,i*5,none⟩=some (Ia ka (f:Int))/\w.cell? ⟨g,i*5+1,none⟩=some (Ia ka (e:Int))/\w.cell? ⟨g,i*5+2,none⟩=some (Oa l)/\w.cell? ⟨g,i*5+3,none⟩=some (La tx)/\w.cell? ⟨g,i*5+4,none⟩=some (Ma p m c):=by obtain⟨a,p,m,c,b⟩:=h.2 i hi;generalize es[i]=x at a b;obtain⟨f,e,l,tx,d⟩:=x;simp only at b;subst b;exact⟨f,e,l,tx,p,m,c,rfl,a 0 _ rfl,a 1 _ rfl,a 2 _ rfl,a 3 _ rfl,a 4 _ rfl⟩
def El.ref(x:El):Bool:=if x.mc=true then decide (x.ra-x.fr<32)else decide (x.text.size=32)
def El.pd(x:El):Bool:= !x.mc&&decide (x.text.size=0)
def Gd(es:List El)(k:Nat):Nat:=((es.take k).filter El.ref).length
variable{k:Nat}
theorem EH(hk:k<es.length):Gd es (k+1)=Gd es k+if es[k].ref=true then 1 else 0:=by unfold Gd;rw[Jj,Zk hk];simp only[Option.toList_some,List.filter_append,Zq];cases h:es[k].ref<;>simp[h]
theorem eC(es:List El)(k:Nat):Gd es k<=k:=by unfold Gd;exact Z2 (List.length_filter_le _ _) (by rw[Zx];omega)
theorem fG(es:List El)(k:Nat)(h:k<16):es.take 16=es.take (k+1)++(es.take 16).drop (k+1):=by have :=Xc (k+1) (es.take 16);rw[Jb,show min (k+1) 16=k+1 by omega]at this;exact this.symm
def Nz(es:List El):Bool:=(es.take 16).all (λx=>x.ref||x.pd)&&(decide (2<=Gd es 16)&&(es.drop 16).all El.pd)
theorem LI(g cap:Nat)(es:List El)(hl:es.length=17)(hcap:17<=cap)(hr:Fi w g es)(hb:∀i (hi:i<es.length),es[i].fr<=es[i].ra/\es[i].ra<=2048):Calls oa 235 #[Ma (some ⟨g,0,none⟩) 17 cap] w λe w'=>e=na (Oa (Nz es))/\Ba w w':=by
 have HR:=Hq (A3 hr hl hb);have ae:(17:Int)<=(cap:Int):=by omega
 have ac:(16:Int)<=(cap:Int):=by omega
 clear hl hr hb;go_enter func235,ntmps235;go_wp2_with fail
 go_loopg [14,4] 16 (λgh i n wr=>∃k,k<=16/\gh=16-k/\i=Ia ka (k:Int)/\n=Ia ka (Gd es k:Int)/\Ba w wr/\(es.take k).all (λx=>x.ref||x.pd)=true)
 case atStart=>exact⟨0,Xa _,rfl,rfl,by simp[Gd],Zb _ _,by simp⟩
 case round=>
  obtain⟨k,V,rfl,rfl,rfl,G,L⟩:=hrel;obtain⟨s,y,C⟩:=HR.o;have q:=s.below G;by_cases E:k<16
  .have d:k<es.length:=by omega
   have i1:(k:Int)<16:=by omega
   obtain⟨f,e,l,a,p,m,c,v,r0,r1,r2,r3,r4⟩:=q.at d;have ah:=q.1;have ag:¬g=wr.heap.size:=by omega
   have D:=C k d;rw[v]at D;have F:=EH d;rw[v]at F;have o:=eC es k;have M:∀b,(El.ref ⟨f,e,l,a,Ma p m c⟩||El.pd ⟨f,e,l,a,Ma p m c⟩)=b->(es.take (k+1)).all (λx=>x.ref||x.pd)=b:=λb hb=>by rw[Jj,Zk d,List.all_append,L,v];simpa using hb
   have S:=Wj k 1 (by omega);obtain⟨n,H⟩:=nm (Gd es k);rw[H]at F o⊢;have T:=Wj n 1 (by omega);have HW:Hid (wrap64 ((k:Int)+1)=((k+1:Nat):Int)/\wrap64 ((n:Int)+1)=((n+1:Nat):Int)):=⟨S,T⟩;have Y:Hid (∀W,Calls oa 241 #[Sa #[Ia ka (f:Int),Ia ka (e:Int),Oa l,La a,Ma p m c]] W λr w'=>r=na (Oa (El.ref ⟨f,e,l,a,Ma p m c⟩))/\Ba W w'):=λW=>TC f e l a p m c W D.1 D.2;have J:Hid (∀W,Calls oa 236 #[Sa #[Ia ka (f:Int),Ia ka (e:Int),Oa l,La a,Ma p m c]] W λr w'=>r=na (Oa (El.pd ⟨f,e,l,a,Ma p m c⟩))/\Ba W w'):=λW=>RC f e l a p m c W;have O:=Hq G;have I:=Hq M;have R:=Hq F;have X:Hid ((es.take (k+1)).all (λx=>x.ref||x.pd)=false->Nz es=false):=λh=>by unfold Nz;rw[show es.take 16=es.take (k+1)++(es.take 16).drop (k+1)from fG es k E,List.all_append,h];rfl
   clear s y C q L V E d v D F o M S T G H;go_wp2_with fail
   refine(Y _).mono ?_;rintro r w1 ⟨rfl,N⟩;have z:=N.block wr.heap.size (by simp);rw[show(wr.alloc (ma #[Ia ka (f:Int),Ia ka (e:Int),Oa l,La a,Ma p m c] 204)).heap[wr.heap.size]? =some (ma #[Ia ka (f:Int),Ia ka (e:Int),Oa l,La a,Ma p m c] 204 (0,0))from Z6]at z;obtain⟨x0,x1,x2,x3,x4⟩:=qe z;have Q:Hid (Ba w w1):=Below.behind O (Below.up N);clear z N;cases hrf:El.ref ⟨f,e,l,a,Ma p m c⟩with
   |true=>
    have K:Hid (Gd es (k+1)=n+1):=by rw[R.o,Zo hrf];exact rfl
    have j:Hid ((es.take (k+1)).all (λx=>x.ref||x.pd)=true):=I true (by rw[hrf];rfl);clear hrf;go_wp2;go_roundg (16-(k+1))
    case measure=>omega
    case rel=>exact⟨k+1,by omega,rfl,rfl,by rw[K.o,HW.2],Q.o,j.o⟩
   |false=>
    go_wp2_with fail
    refine(J _).mono ?_;rintro r Z ⟨rfl,u⟩;have B:=Hq (Below.behind Q u);have K:Hid (Gd es (k+1)=n):=by rw[R.o,Zj (by rw[hrf];simp)];exact rfl
    have j:=Hq (I _ rfl);rw[hrf]at j;clear hrf u;cases hem:El.pd ⟨f,e,l,a,Ma p m c⟩with
    |true=>
     rw[hem]at j;clear hem;go_wp2;go_roundg (16-(k+1))
     case measure=>omega
     case rel=>exact⟨k+1,by omega,rfl,rfl,by rw[K.o],B.o,j.o⟩
    |false=>rw[hem]at j;clear hem;go_wp2;go_ret;exact⟨by rw[X.o j.o];rfl,B.o⟩
  .obtain rfl:k=16:=by omega
   have i1:¬((16:Nat):Int)<16:=by omega
   have d:16<es.length:=by omega
   obtain⟨f,e,l,a,p,m,c,v,r0,r1,r2,r3,r4⟩:=q.at d;have J:Hid (∀W,Calls oa 236 #[Sa #[Ia ka (f:Int),Ia ka (e:Int),Oa l,La a,Ma p m c]] W λr w'=>r=na (Oa (El.pd ⟨f,e,l,a,Ma p m c⟩))/\Ba W w'):=λW=>RC f e l a p m c W;have U:es.drop 16=[es[16]]:=by rw[Yv d,Xw (by omega)]
   have t:Hid (Nz es=(decide (2<=Gd es 16)&&El.pd ⟨f,e,l,a,Ma p m c⟩)):=by show Nz es=_;unfold Nz;rw[L,U,v];simp
   have O:=Hq G;have o:=eC es 16;obtain⟨n,H⟩:=nm (Gd es 16);rw[H]at t o⊢;by_cases P:2<=n
   .have j1:(2:Int)<=(n:Int):=by omega
    rw[Z5 P,Bool.true_and]at t;clear s y C q L V E d v U G H o P;go_wp2_with (first| (go_at_call 236;refine(J _).mono ?_;rintro r Z ⟨rfl,u⟩;have B:Hid (Ba w Z):=Below.behind O u;clear u))
    go_ret;exact⟨by rw[t.o];rfl,B.o⟩
   .have j1:(n:Int)<2:=by omega
    rw[Zt P,Bool.false_and]at t;clear s y C q L V E d v U G H o P;go_wp2;go_ret;exact⟨by rw[t.o];rfl,O.o⟩
theorem Gr.put{B:Nat}{S S1:Bb}{w Y:Fa}(hg:Gr B S S1 w Y){c:Nat}(hc:w.heap.size<=c)(hn:S1 c=none)(hBw:B<=w.heap.size){t:Nd}{h:Da}{r:List Value}(hh:Bd t h)(hr:Mg S1 t r)(ht:t.ok)(hY:Y.heap[c]? =some (ma (La h::r).toArray (Ev t) (0,0))):Gr B S (S1.put c t) w Y:=by
 have i:=hg.2.wa;have d:∀b u,S1 b=some u->S1.put c t b=some u:=λb u f=>by
  by_cases e:b=c;.subst e;rw[hn]at f;cases f
  .rw[Bb.mb _ _ _ e];exact f
 refine⟨hg.1,hg.2.os,hg.2.tape,hg.2.output,hg.2.size,hg.2.other,⟨λk u a=>?_,λk u a=>?_,λk u a=>?_,i.le⟩,λb u f=>d b u (hg.2.sub b u f),λk a h=>by rw[Bb.mb _ _ _ (by omega)];exact hg.2.new k a h,hg.2.kids⟩
 .by_cases e:k=c;.subst e;rw[Bb.Ob]at a;obtain rfl:=Zi a;exact⟨h,r,hh,hr.sub d,hY⟩
  .rw[Bb.mb _ _ _ e]at a;obtain⟨g,n,j,l,m⟩:=i.node k u a;exact⟨g,n,j,l.sub d,m⟩
 .by_cases e:k=c;.subst e;rw[Bb.Ob]at a;obtain rfl:=Zi a;exact ht
  .rw[Bb.mb _ _ _ e]at a;exact i.ok k u a
 .by_cases e:k=c;.subst e;rw[Bb.Ob]at a;omega
  .rw[Bb.mb _ _ _ e]at a;exact i.low k u a
def Ap(ns:List Nd):Except Er (List Nd)->Except Er (List Nd)
 | .error e=>.error e
 | .ok ms=>.ok (ns++ms)
def Ca:Except Er (List Nd)->Except Er Nd
 | .error e=>.error e
 | .ok ns=>.ok (.br ns)
variable{rd:It->Nat->Except Er Nd}{za:Nat}{x:It}{xs:List It}{ns:List Nd}
theorem VT(h:x.pd=true):Ap ns (Kw rd za (x::xs))=Ap (ns++[.no]) (Kw rd za xs):=by
 rw[Kw,Zo h];cases Kw rd za xs with
 |error e=>rfl
 |ok ms=>simp[Ap]
theorem nS{e:Er}(h:x.pd=false)(hr:Nw rd x za=.error e):Ap ns (Kw rd za (x::xs))=.error e:=by rw[Kw,Zj (by rw[h];simp),hr];rfl
theorem jT{t:Nd}(h:x.pd=false)(hr:Nw rd x za=.ok t):Ap ns (Kw rd za (x::xs))=Ap (ns++[t]) (Kw rd za xs):=by
 rw[Kw,Zj (by rw[h];simp),hr];simp only;cases Kw rd za xs with
 |error e=>rfl
 |ok ms=>simp[Ap]
structure nf(B:Nat)(S:Bb)(w:Fa)(ax:Array Value)(gb:Nat)(R:Except Er (List Nd))(rest:Nat->Except Er (List Nd))(k:Nat)(wr:Fa)(ns:List Nd)(vs:List Value)(S1:Bb):Prop where
 len:ns.length=k
 Lh:vs.length=16
 kids:∀i (h:i<vs.length),od S1 vs[i] (ns.getD i .no)
 cell:wr.heap[gb]? =some (ma (La ⟨#[]⟩::vs).toArray 386 (0,0))
 off:S1 gb=none
 gr:Gr B S S1 w wr
 box:wr.heap[w.heap.size]? =some (ma ax 204 (0,0))
 eq:R=Ap ns (rest k)
variable{R:Except Er (List Nd)}{rest:Nat->Except Er (List Nd)}{wr:Fa}{vs:List Value}{S1:Bb}
theorem nf.lt(h:nf B S w ax gb R rest k wr ns vs S1):gb<wr.heap.size:=(Zg.1 h.cell).1
theorem nf.Cb{S2:Bb}(h:nf B S w ax gb R rest k wr ns vs S1)(hg:Gr B S1 S2 wr w1):nf B S w ax gb R rest k w1 ns vs S2:=by refine⟨h.len,h.Lh,λi a=>(h.kids i a).sub hg.2.sub,(hg.1.block gb h.lt).trans h.cell,hg.2.new gb h.lt h.off,h.gr.trans hg,(hg.1.block _ (Zg.1 h.box).1).trans h.box,h.eq⟩
theorem tI(ns:List Nd)(t:Nd)(i:Nat):(ns++[t]).getD i .no=if i=ns.length then t else ns.getD i .no:=by
 by_cases h:i=ns.length;.subst h;simp
 .rw[Zj h];rcases Nat.lt_or_ge i ns.length with h1|h1;.simp[Yl h1]
  .rw[Yb,Yb,Vb (by simp;omega),Vb h1]
theorem nf.skip(h:nf B S w ax gb R rest k wr ns vs S1)(he:∀ns,Ap ns (rest k)=Ap (ns++[.no]) (rest (k+1))):nf B S w ax gb R rest (k+1) wr (ns++[.no]) vs S1:=by
 refine⟨by simp[h.len],h.Lh,λi a=>?_,h.cell,h.off,h.gr,h.box,by rw[h.eq,he]⟩;rw[tI];split
 .rename_i e
  have :=h.kids i a;rw[Yb,Vb (by omega)]at this;exact this
 .exact h.kids i a
theorem nf.more(h:nf B S w ax gb R rest k wr ns vs S1)(hgb:w.heap.size<gb){v:Value}{t:Nd}(hv:od S1 v t)(he:∀ns,Ap ns (rest k)=Ap (ns++[t]) (rest (k+1))):nf B S w ax gb R rest (k+1) (wr.setCell ⟨gb,1+k,none⟩ v) (ns++[t]) (vs.set k v) S1:=by
 have c:Ba w (wr.setCell ⟨gb,1+k,none⟩ v):=by have c:=h.gr.1;exact⟨c.os,c.tape,c.output,by simpa using c.size,λj d=>(Zd _ _ _ _ (by simp;omega)).trans (c.block j d)⟩
 refine⟨by simp[h.len],by simpa using h.Lh,λi m=>?_,?_,h.off,⟨c,?_⟩,(Zd _ _ _ _ (by simp;omega)).trans h.box,by rw[h.eq,he]⟩
 .rw[tI,List.getElem_set,h.len];by_cases e:k=i;.rw[Zo e,Zo e.symm];exact hv
  .rw[Zj e,Zj (λl=>e l.symm)];exact h.kids i (by simpa using m)
 .have :=De h.cell (1+k) v;rw[this,J3 1 k,Yw]
 .have a:=h.gr.2;refine⟨a.os,a.tape,a.output,by simpa using a.size,λj d n=>c.block j d,?_,a.sub,a.new,λb u f j d=>?_⟩;.exact a.wa.Cb (by simp) λj u d=>Zd _ _ _ _ (by rintro rfl;rw[h.off]at d;cases d)
  .have g:b≠gb:=by rintro rfl;have :=a.sub b u f;rw[h.off]at this;cases this
   exact(Zc (Zd _ _ _ _ g)).trans (a.kids b u f j d)
theorem CS(sent:Nat->Addr)(fr en:Nat)(tx0:Da)(g cap:Nat)(es:List El)(za:Nat)(hF:Qb w sent)(hl:es.length=17)(hcap:17<=cap)(hr:Fi w g es)(hb:∀i (hi:i<es.length),es[i].fr<=es[i].ra/\es[i].ra<=2048)(h:64<=za\/Nz es=false):Calls oa 221 #[Sa #[Ia ka (fr:Int),Ia ka (en:Int),Oa true,La tx0,Ma (some ⟨g,0,none⟩) 17 cap],Ia ka (za:Int)] w (Lc sent B S w (.error (Ay fr))):=by
 have d:Hid (∀W,Ba w W->Calls oa 222 #[Sa #[Ia ka (fr:Int),Ia ka (en:Int),Oa true,La tx0,Ma (some ⟨g,0,none⟩) 17 cap]] W λe q=>e=na ((Ay fr).val sent)/\Ba W q):=λW p=>Cy fr en true tx0 _ 17 cap sent W (hF.below p);obtain⟨u,v,j⟩:=(Ay fr).shape sent;have s:Hid ((Ay fr).val sent=ca u v):=j;rw[j]at d;have t:Hid (∀W,Ba w W->Calls oa 235 #[Ma (some ⟨g,0,none⟩) 17 cap] W λe q=>e=na (Oa (Nz es))/\Ba W q):=λW p=>LI g cap es hl hcap (hr.below p) hb;have l:Ba w (w.alloc (ma #[Ia ka (fr:Int),Ia ka (en:Int),Oa true,La tx0,Ma (some ⟨g,0,none⟩) 17 cap] 204)):=(Zb _ _).alloc (Za _) _;have c:=Hq l;clear hF hl hcap hr hb j l;by_cases f:64<=za
 .have hi:(64:Int)<=(za:Int):=by omega
  clear h f;go_enter func221,ntmps221;go_wp2_with (go_at_call 222;refine(d _ c.o).mono ?_;rintro e r ⟨rfl,a⟩;have o:Hid (Ba w r):=Below.behind c a;clear a)
  go_ret2;exact .inl ⟨_,rfl,by rw[s.o];rfl,o.o⟩
 .have hi:(za:Int)<64:=by omega
  have n:Nz es=false:=h.resolve_left f;rw[n]at t;clear h f n;go_enter func221,ntmps221;go_wp2_with fail
  refine(t _ c.o).mono ?_;rintro e r ⟨rfl,a⟩;have b:=a.block w.heap.size (by simp);rw[show(w.alloc (ma #[Ia ka (fr:Int),Ia ka (en:Int),Oa true,La tx0,Ma (some ⟨g,0,none⟩) 17 cap] 204)).heap[w.heap.size]? =some (ma #[Ia ka (fr:Int),Ia ka (en:Int),Oa true,La tx0,Ma (some ⟨g,0,none⟩) 17 cap] 204 (0,0))from Z6]at b;obtain⟨y,z,C,D,E⟩:=qe b;have k:Hid (Ba w r):=Below.behind c a;clear b a;go_wp2_with (go_at_call 222;refine(d _ k.o).mono ?_;rintro e x ⟨rfl,m⟩;have o:Hid (Ba w x):=Below.behind k m;clear m)
  go_ret2;exact .inl ⟨_,rfl,by rw[s.o];rfl,o.o⟩
theorem ZH{its:List It}(hl:its.length=17)(hk:k<16):(its.take 16).drop k=its[k]::(its.take 16).drop (k+1):=by
 have h:k<(its.take 16).length:=by rw[Zx];omega
 rw[Yv h,Vu]
theorem IK(sent:Nat->Addr)(fr en:Nat)(tx0:Da)(g cap:Nat)(es:List El)(its:List It)(za:Nat)(rd:It->Nat->Except Er Nd)(hf:ua B S w)(hl:es.length=17)(hcap:17<=cap)(hr:Fi w g es)(hb:∀i (hi:i<es.length),es[i].fr<=es[i].ra/\es[i].ra<=2048)(h64:za<64)(hfk:Nz es=true)(hli:its.length=17)(hemp:∀i (h1:i<es.length) (h2:i<its.length),es[i].pd=its[i].pd)(hN:∀i (h1:i<es.length) (h2:i<its.length) (S1:Bb) (W:Fa),i<16->ua B S1 W->Ba w W->es[i].ref=true->Calls oa 237 #[Ea es[i],Ia ka ((za+1:Nat):Int)] W (Lc sent B S1 W (Nw rd its[i] (za+1)))):Calls oa 221 #[Sa #[Ia ka (fr:Int),Ia ka (en:Int),Oa true,La tx0,Ma (some ⟨g,0,none⟩) 17 cap],Ia ka (za:Int)] w (Lc sent B S w (Ca (Kw rd (za+1) (its.take 16)))):=by
 have HK:Hid (∀W,Ba w W->Calls oa 235 #[Ma (some ⟨g,0,none⟩) 17 cap] W λe w'=>e=na (Oa true)/\Ba W w'):=λW hW=>by have :=LI g cap es hl hcap (hr.below hW) hb;rw[hfk]at this;exact this
 have q:∀i (h:i<es.length),i<16->(es[i].ref||es[i].pd)=true:=λi h ba=>by unfold Nz at hfk;rw[X5]at hfk;refine Xy.1 hfk.1 _ ?_;exact List.mem_take_iff_getElem.2 ⟨i,by omega,rfl⟩
 have ag:Ba w (w.alloc (ma #[Ia ka (fr:Int),Ia ka (en:Int),Oa true,La tx0,Ma (some ⟨g,0,none⟩) 17 cap] 204)):=(Zb _ _).alloc (Za _) _;have X:=Hq ag;have HX:Hid (Fi w g es/\es.length=17/\its.length=17/\(∀i (h:i<es.length),i<16->(es[i].ref||es[i].pd)=true)/\(∀i (h1:i<es.length) (h2:i<its.length),es[i].pd=its[i].pd)/\za<64):=⟨hr,hl,hli,q,hemp,h64⟩;have HN:=Hq hN;have HF:=Hq hf;have hi:(za:Int)<64:=by omega
 have bc:(17:Int)<=(cap:Int):=by omega
 obtain⟨R,hR⟩:=nm (Kw rd (za+1) (its.take 16));have ar:=Hq hR;rw[hR];clear hf hl hcap hr hb h64 hfk hli hemp hN q ag hR;go_enter func221,ntmps221;go_wp2_with fail
 refine(HK _ X.o).mono ?_;rintro e w1 ⟨rfl,E⟩;have a:=E.block w.heap.size (by simp);rw[show(w.alloc (ma #[Ia ka (fr:Int),Ia ka (en:Int),Oa true,La tx0,Ma (some ⟨g,0,none⟩) 17 cap] 204)).heap[w.heap.size]? =some (ma #[Ia ka (fr:Int),Ia ka (en:Int),Oa true,La tx0,Ma (some ⟨g,0,none⟩) 17 cap] 204 (0,0))from Z6]at a;have D:w.heap.size<w1.heap.size:=by have :=E.size;simp at this;omega
 have ae:Ba w w1:=Below.behind X E;obtain⟨x0,x1,x2,x3,x4⟩:=qe a;have A0:Aside (nf B S w #[Ia ka (fr:Int),Ia ka (en:Int),Oa true,La tx0,Ma (some ⟨g,0,none⟩) 17 cap] w1.heap.size R (λk=>Kw rd (za+1) ((its.take 16).drop k)) 0 (w1.alloc (ma lk.toArray 386)) [] (lk.drop 1) S):=by
  have au:=ae.alloc (V1 D) (ma lk.toArray 386);refine⟨rfl,rfl,λi hi=>.inl ⟨by simp,?_⟩,?_,HF.fresh (V1 D),.xa HF au,?_,?_⟩;.have :(lk.drop 1)[i]∈List.replicate 16 Value.nilIface:=Zy hi;exact Jp this
  .exact Z6
  .exact(Z0 _ _ _ D).trans a
  .rw[Yx,ar.o];cases R<;>rfl
 have Z:Hid (w.heap.size<w1.heap.size):=D;clear a E ae D;go_wp2_with fail
 go_loopg [21] 16 (λgh i wr=>∃k ns P S1,k<=16/\gh=16-k/\i=Ia ka (k:Int)/\nf B S w #[Ia ka (fr:Int),Ia ka (en:Int),Oa true,La tx0,Ma (some ⟨g,0,none⟩) 17 cap] w1.heap.size R (λk=>Kw rd (za+1) ((its.take 16).drop k)) k wr ns P S1)
 case atStart=>exact⟨0,[],_,S,Xa _,rfl,rfl,A0.o⟩
 case round=>
  obtain⟨k,ns,P,S1,K,rfl,rfl,j⟩:=hrel;clear A0 x0 x1 x2 x3 x4;have HI:=Hq j;obtain⟨x0,x1,x2,x3,x4⟩:=qe j.box;by_cases z:k<16
  .have i1:(k:Int)<16:=by omega
   obtain⟨O,aw,hli,q,hemp,hd⟩:=HX.o;have C:k<es.length:=by omega
   have L:k<its.length:=by omega
   have N:=O.below j.gr.1;obtain⟨f,e,l,s,p,m,c,V,r0,r1,r2,r3,r4⟩:=N.at C;have bi:=N.1;have bf:¬g=wr.heap.size:=by omega
   have al:Hid (∀W,Calls oa 236 #[Sa #[Ia ka (f:Int),Ia ka (e:Int),Oa l,La s,Ma p m c]] W λr w'=>r=na (Oa (El.pd ⟨f,e,l,s,Ma p m c⟩))/\Ba W w'):=λW=>RC f e l s p m c W;have o:=hemp k C L;rw[V]at o;have ha:=q k C z;rw[V]at ha;have HA:=Hq ha;have hN:=HN k C L;rw[V]at hN;have H:=ZH hli z;obtain⟨x,hx⟩:=nm (its[k]);rw[hx]at o hN H;have Y:Hid (El.pd ⟨f,e,l,s,Ma p m c⟩=x.pd):=o;have aq:Hid (∀(S1:Bb) (W:Fa),ua B S1 W->Ba w W->El.ref ⟨f,e,l,s,Ma p m c⟩=true->Calls oa 237 #[Sa #[Ia ka (f:Int),Ia ka (e:Int),Oa l,La s,Ma p m c],Ia ka ((za+1:Nat):Int)] W (Lc sent B S1 W (Nw rd x (za+1)))):=λS1 W h1 h2 U=>hN S1 W z h1 h2 U;have F:Hid ((its.take 16).drop k=x::(its.take 16).drop (k+1)):=H;have bj:wrap64 ((za:Int)+1)=((za+1:Nat):Int):=Wj za 1 (by omega);clear O aw hli q hemp hd C L N V j K o ha hN H hx;go_wp2_with fail
   refine(al _).mono ?_;rintro r w2 ⟨rfl,G⟩;have a:=G.block wr.heap.size (by simp);rw[show(wr.alloc (ma #[Ia ka (f:Int),Ia ka (e:Int),Oa l,La s,Ma p m c] 204)).heap[wr.heap.size]? =some (ma #[Ia ka (f:Int),Ia ka (e:Int),Oa l,La s,Ma p m c] 204 (0,0))from Z6]at a;obtain⟨y0,y1,y2,y3,y4⟩:=qe a;have u:=Hq (HI.Cb (.xa HI.gr.2.wa (Below.up G)));clear a G;cases o:El.pd ⟨f,e,l,s,Ma p m c⟩with
   |true=>
    have am:=Hq (u.skip (λns=>by rw[F.o];exact VT (by rw[<-Y.o,o])));clear o;go_wp2;go_roundg (16-(k+1))
    case measure=>omega
    case rel=>exact⟨k+1,_,_,S1,by omega,rfl,rfl,am.o⟩
   |false=>
    have aj:El.ref ⟨f,e,l,s,Ma p m c⟩=true:=by have :=HA.o;rw[o,Bool.or_false]at this;exact this
    have ak:x.pd=false:=by rw[<-Y.o,o]
    have ac:=Hq ak;have Q:=Hq (aq S1 w2 u.gr.2.wa u.gr.1 aj);clear o aj ak;go_wp2_with fail
    refine Q.mono ?_;rintro r w3 (⟨T,M,rfl,ah⟩|⟨t,v,S2,M,rfl,U,h4,h5⟩);.obtain⟨et,ev,J⟩:=T.shape sent;have HY:Hid (R=.error T/\T.val sent=ca et ev/\Ba w w3):=⟨by rw[u.eq,F.o];exact nS ac M,J,Below.behind u.gr.1 ah⟩;rw[J];clear ah J M;go_wp2;go_ret2;rw[HY.1];exact .inl ⟨T,rfl,by rw[HY.2.1];rfl,HY.2.2⟩
    .obtain⟨d,rfl,hd⟩:=h4.full U;have y:=u.Cb h5;have ay:w3.cell? ⟨w1.heap.size,1+k,none⟩=some P[k]! :=by have :=JF (n:=k) y.cell (by rw[y.Lh];exact z) trivial;rw[this,Z9 P k (by rw[y.Lh];exact z)]
     have az:w3.frozen? ⟨w1.heap.size,1+k,none⟩=false:=qD (n:=k) y.cell trivial;have ao:=Hq (y.more Z h4 (λns=>by rw[F.o];exact jT ac M));clear U h4 h5 M y hd;go_wp2;go_roundg (16-(k+1))
     case measure=>omega
     case rel=>exact⟨k+1,_,_,S2,by omega,rfl,rfl,ao.o⟩
  .obtain rfl:k=16:=by omega
   have i1:¬((16:Nat):Int)<16:=by omega
   have I:R=.ok ns:=by rw[j.eq,Xw (by rw[Zx];omega),Kw];simp[Ap]
   have ai:(Nd.br ns).ok:=by
    rw[Nd.ok];refine⟨j.len,Cw λt ht=>?_⟩;obtain⟨i,hi,rfl⟩:=Xv ht;have hl:=j.len;have K:=j.kids i (by rw[j.Lh];omega);rw[Yb,Zk hi]at K;rcases K with⟨e,_⟩|⟨_,b,_,hb⟩;.simp only[Yk]at e;rw[e,Nd.ok];trivial
    .exact j.gr.2.wa.ok b _ hb
   have hG:=j.gr.put (c:=w1.heap.size) (V1 Z.o) j.off HF.le (t:=.br ns) (h:=⟨#[]⟩) (r:=P) (Bd.empty (by simp)) ⟨j.Lh,λi h1 h2=>by have :=j.kids i h1;rw[Yb,Zk h2]at this;exact this⟩ ai j.cell;have HG:Hid (R=.ok ns/\Gr B S (S1.put w1.heap.size (.br ns)) w wr):=⟨I,hG⟩;clear j I ai hG K z;go_wp2;go_ret2;rw[HG.1];exact .inr ⟨.br ns,_,_,rfl,rfl,by simp,.inr ⟨by simp,w1.heap.size,rfl,Bb.Ob _ _ _⟩,HG.2⟩
section
variable{B:Nat}{S:Bb}{w:Fa}(sent:Nat->Addr)(fr en:Nat)(tx:Da)(za:Nat)
theorem sx(l:Bool)(p:Option Addr)(m c:Nat)(hF:Qb w sent)(h:l=true->m≠2/\m≠17):Calls oa 204 #[Sa #[Ia ka (fr:Int),Ia ka (en:Int),Oa l,La tx,Ma p m c],Ia ka (za:Int)] w (Lc sent B S w (.error (Ay fr))):=by
 have d:Hid (∀W,Ba w W->Calls oa 222 #[Sa #[Ia ka (fr:Int),Ia ka (en:Int),Oa l,La tx,Ma p m c]] W λe s=>e=na ((Ay fr).val sent)/\Ba W s):=λW r=>Cy fr en l tx p m c sent W (hF.below r);obtain⟨n,o,f⟩:=(Ay fr).shape sent;have j:Hid ((Ay fr).val sent=ca n o):=f;rw[f]at d;have b:Hid (Ba w (w.alloc (ma #[Ia ka (fr:Int),Ia ka (en:Int),Oa l,La tx,Ma p m c] 204))):=(Zb _ _).alloc (Za _) _;clear hF f;cases l with
 |false=>
  clear h;go_enter func204,ntmps204;go_wp2_with (go_at_call 222;refine(d _ b.o).mono ?_;rintro e i ⟨rfl,a⟩;have g:Hid (Ba w i):=Below.behind b a;clear a)
  go_ret2;exact .inl ⟨_,rfl,by rw[j.o];rfl,g.o⟩
 |true=>
  obtain⟨q,k⟩:=h rfl;have u:((m:Int)==2)=false:=by simp;omega
  have t:((m:Int)==17)=false:=by simp;omega
  clear h q k;go_enter func204,ntmps204;go_wp2_with (go_at_call 222;refine(d _ b.o).mono ?_;rintro e i ⟨rfl,a⟩;have g:Hid (Ba w i):=Below.behind b a;clear a)
  go_ret2;exact .inl ⟨_,rfl,by rw[j.o];rfl,g.o⟩
theorem bP(g c:Nat)(q:Except Er Nd)(hf:ua B S w)(hN:∀W,Ba w W->Calls oa 220 #[Sa #[Ia ka (fr:Int),Ia ka (en:Int),Oa true,La tx,Ma (some ⟨g,0,none⟩) 2 c],Ia ka (za:Int)] W (Lc sent B S W q)):Calls oa 204 #[Sa #[Ia ka (fr:Int),Ia ka (en:Int),Oa true,La tx,Ma (some ⟨g,0,none⟩) 2 c],Ia ka (za:Int)] w (Lc sent B S w q):=by
 have o:=Hq hN;have n:=Hq hf;have b:Hid (Ba w (w.alloc (ma #[Ia ka (fr:Int),Ia ka (en:Int),Oa true,La tx,Ma (some ⟨g,0,none⟩) 2 c] 204))):=(Zb _ _).alloc (Za _) _;clear hN hf;go_enter func204,ntmps204;go_wp2_with fail
 refine(o _ b.o).mono ?_;rintro e m (⟨h,rfl,rfl,l⟩|⟨t,v,f,rfl,rfl,i,j,k⟩);.obtain⟨p,r,d⟩:=h.shape sent;have a:Hid (h.val sent=ca p r/\Ba w m):=⟨d,Below.behind b l⟩;rw[d];clear l d;go_wp2;go_ret2;exact .inl ⟨h,rfl,by rw[a.1];rfl,a.2⟩
 .have a:Hid (t≠ .no/\od f v t/\Gr B S f w m):=⟨i,j,k.after n b.o⟩;clear i j k;go_wp2;go_ret2;exact .inr ⟨t,v,f,rfl,rfl,a.1,a.2.1,a.2.2⟩
theorem pR(g c:Nat)(q:Except Er Nd)(hf:ua B S w)(hN:∀W,Ba w W->Calls oa 221 #[Sa #[Ia ka (fr:Int),Ia ka (en:Int),Oa true,La tx,Ma (some ⟨g,0,none⟩) 17 c],Ia ka (za:Int)] W (Lc sent B S W q)):Calls oa 204 #[Sa #[Ia ka (fr:Int),Ia ka (en:Int),Oa true,La tx,Ma (some ⟨g,0,none⟩) 17 c],Ia ka (za:Int)] w (Lc sent B S w q):=by
 have o:=Hq hN;have n:=Hq hf;have b:Hid (Ba w (w.alloc (ma #[Ia ka (fr:Int),Ia ka (en:Int),Oa true,La tx,Ma (some ⟨g,0,none⟩) 17 c] 204))):=(Zb _ _).alloc (Za _) _;clear hN hf;go_enter func204,ntmps204;go_wp2_with fail
 refine(o _ b.o).mono ?_;rintro e m (⟨h,rfl,rfl,l⟩|⟨t,v,f,rfl,rfl,i,j,k⟩);.obtain⟨p,r,d⟩:=h.shape sent;have a:Hid (h.val sent=ca p r/\Ba w m):=⟨d,Below.behind b l⟩;rw[d];clear l d;go_wp2;go_ret2;exact .inl ⟨h,rfl,by rw[a.1];rfl,a.2⟩
 .have a:Hid (t≠ .no/\od f v t/\Gr B S f w m):=⟨i,j,k.after n b.o⟩;clear i j k;go_wp2;go_ret2;exact .inr ⟨t,v,f,rfl,rfl,a.1,a.2.1,a.2.2⟩
end
variable{n:Nat}{F:Nat->Prop}{e:El}
theorem sn(h:Tree Nj kP n w F e x):(e.mc=false/\e.sub=Ma none 0 0/\x=.text e.fr e.ra (Ke e.text))\/(e.mc=true/\∃p c,∃l:List It,e.sub=Ma p l.length c/\x=.list e.fr e.ra l):=by
 cases n with
 |zero=>exact .inl ⟨h.1.1,h.1.2,h.2⟩
 |succ n=>
  rcases h with h|⟨h1,ps,h2,h3,h4,h5⟩;.exact .inl ⟨h.1.1,h.1.2,h.2⟩
  .refine .inr ⟨h1,?_⟩;rcases h2 with⟨e1,e2,_⟩|⟨g,cap,e1,_⟩;.exact⟨none,0,_,by rw[e1,Zl,e2],h5⟩
   .exact⟨_,cap,_,by rw[e1,Zl],h5⟩
theorem RH(h:Tree Nj kP n w F e x):e.pd=x.pd:=by
 rcases sn h with⟨h1,_,rfl⟩|⟨h1,_,_,l,_,rfl⟩;.simp[El.pd,It.pd,h1,ta]
 .simp[El.pd,It.pd,h1]
theorem kL(h:Tree Nj kP n w F e x):e.ref=x.Sf:=by
 rcases sn h with⟨h1,_,rfl⟩|⟨h1,_,_,l,_,rfl⟩;.simp[El.ref,It.Sf,h1,ta]
 .simp[El.ref,It.Sf,h1]
variable{p:Option Addr}{m c:Nat}
theorem JK(h:Tree Nj kP n w F e x)(hs:e.sub=Ma p m c):Sb e.mc e.fr e.ra m e.text=x.Sb:=by
 rcases sn h with⟨h1,_,rfl⟩|⟨h1,_,_,l,h2,rfl⟩;.simp[Sb,It.Sb,h1,ta]
 .rw[h2]at hs;simp only[Z3]at hs;simp[Sb,It.Sb,h1,hs.2.1]
theorem Wm(s:Da):Kg (Ke s)=s:=Mj (by rw[qg (Qk s)])
theorem xO{n1 n2:Nat}{e1 e2:El}{a b:It}(ha:Tree Nj kP n1 w F e1 a)(hb:Tree Nj kP n2 w F e2 b)(hs:e2.sub=Ma p m c)(rd:It->Nat->Except Er Nd)(fr za:Nat):G7 fr za e1.mc e1.text e2.mc e2.fr e2.ra m e2.text (λd=>Nw rd b d)=Gw rd fr a b za:=by
 have f:=JK hb hs;unfold G7 Gw;rcases sn ha with⟨h1,_,rfl⟩|⟨h1,_,_,l,h2,rfl⟩
 .rw[Zj (by rw[h1];simp)];simp only;cases K6 (Ke e1.text)with
  |none=>rfl
  |some q=>
   obtain⟨p,e⟩:=q;simp only;cases e with
   |false=>
    rw[Zj (show ¬(false=true)by simp),Zj (show ¬(false=true)by simp),f];unfold Pm;split;.rfl
    .cases Nw rd b (za+p.length)<;>rfl
   |true=>
    rw[Zo rfl,Zo rfl];rcases sn hb with⟨k1,_,rfl⟩|⟨k1,_,_,l,k2,rfl⟩;.rw[k1];simp[It.val?,It.bytes,ta,Wm]
    .rw[k1];simp[It.val?]
 .rw[Zo h1]
variable{ps:List (El×It)}
theorem BL(h:∀p∈ps,Tree Nj kP n w F p.1 p.2):Nz (ps.map (·.1))=Pu (ps.map (·.2)):=by
 have k:∀(l:List (El×It)),(∀p∈l,Tree Nj kP n w F p.1 p.2)->(l.map (·.1)).all (λx=>x.ref||x.pd)=(l.map (·.2)).all (λx=>x.Sf||x.pd)/\((l.map (·.1)).filter El.ref).length=((l.map (·.2)).filter It.Sf).length/\(l.map (·.1)).all El.pd=(l.map (·.2)).all It.pd:=by
  intro l;induction l with
  |nil=>intro _;simp
  |cons q l ih=>intro h;obtain⟨g,i,j⟩:=ih λp a=>h p (Yy _ a);have b:=RH (h q (Yj ..));have c:=kL (h q (Yj ..));refine⟨by simp only[Xm,List.all_cons,b,c,g],?_,by simp only[Xm,List.all_cons,b,j]⟩;simp only[Xm,J8,c];split<;>simp[i]
 unfold Nz Pu Gd;rw[<-J7,<-J7,<-J6,<-J6];obtain⟨d,e,_⟩:=k (ps.take 16) λp a=>h p (Y4 a);obtain⟨_,_,f⟩:=k (ps.drop 16) λp a=>h p (Yu a);rw[d,e,f]
theorem OD{v:Value}(h:re w F v ps.length (ps.flatMap λp=>Nj p.1))(hp:0<ps.length)(hT:∀p∈ps,Tree Nj kP n w F p.1 p.2):∃g cap,v=Ma (some ⟨g,0,none⟩) ps.length cap/\ps.length<=cap/\Fi w g (ps.map (·.1)):=by
 obtain⟨g,cap,b,d,j,e,k,f⟩:=h.cells (size:=5) (λ_=>rfl) hp;refine⟨g,cap,b,d,e,λi a=>?_⟩;rw[Zl]at a;simp only[Xf];refine⟨f i a,?_⟩;rcases sn (hT _ (Zy a))with⟨_,h,_⟩|⟨_,p,c,l,h,_⟩;.exact⟨_,_,_,h⟩
 .exact⟨_,_,_,h⟩
theorem bB(h:Tree Nj kP n w F e x){N:Nat}(hg:x.Md N):e.fr<=e.ra/\e.ra<=N/\(e.mc=false->e.text.size<=N):=by
 rcases sn h with⟨h1,_,rfl⟩|⟨h1,_,_,l,h2,rfl⟩;.rw[It.Md]at hg;refine⟨hg.1,hg.2.1,λ_=>?_⟩;have :=(mw (Ke e.text)).2;rw[ta]at this;omega
 .rw[It.Md]at hg;exact⟨hg.1,hg.2.1,λa=>by rw[h1]at a;cases a⟩
theorem Ln(e:El)(h:e.sub=Ma p m c):Ea e=Sa #[Ia ka (e.fr:Int),Ia ka (e.ra:Int),Oa e.mc,La e.text,Ma p m c]:=by unfold Ea;rw[h]
theorem nG(sent:Nat->Addr)(B:Nat):∀(n:Nat) (S:Bb) (w:Fa) (F:Nat->Prop) (e:El) (x:It) (za:Nat),ua B S w->Qb w sent->Tree Nj kP n w F e x->x.Md 2048->za<=64->Calls oa 204 #[Ea e,Ia ka (za:Int)] w (Lc sent B S w (N9 n x za))
 |0,S,w,F,e,x,za,hf,hF,hT,hg,hd=>by
  rcases sn hT with⟨h1,h2,rfl⟩|⟨h1,p,c,l,h2,rfl⟩;.rw[Ln e h2,h1];exact sx sent e.fr e.ra e.text za false none 0 0 hF (by simp)
  .have :=hT.1.1;rw[h1]at this;cases this
 |n+1,S,w,F,e,x,za,hf,hF,hT,hg,hd=>by
  have ih:=nG sent B n;rcases hT with⟨⟨h1,h2⟩,h3⟩|⟨h1,ps,hrow,hsub,h4,rfl⟩;.have h3':=h3;subst h3';rw[Ln e h2,h1,N9];exact sx sent e.fr e.ra e.text za false none 0 0 hF (by simp)
  .rw[N9];rw[It.Md]at hg;obtain⟨_,_,_,hgs⟩:=hg;have hgi:∀q∈ps,q.2.Md 2048:=λq hq=>Me.1 hgs _ (V7 hq);have hRef:∀q∈ps,∀(p:Option Addr) (m c:Nat),q.1.sub=Ma p m c->∀(S1:Bb) (W:Fa) (d:Nat),ua B S1 W->Ba w W->d<=64->q.1.ref=true->Calls oa 237 #[Ea q.1,Ia ka (d:Int)] W (Lc sent B S1 W (Nw (N9 n) q.2 d)):=λq hq p m c hs S1 W d hf1 hb1 hd1 hr1=>by
    have hTq:=hsub q hq;rcases sn hTq with⟨k1,k2,k3⟩|⟨k1,p',c',l,k2,k3⟩;.rw[Ln q.1 k2,k1,k3];rw[El.ref,Zj (by rw[k1];simp)]at hr1;exact GQ sent q.1.fr q.1.ra q.1.text none 0 0 d hf1 (by simpa using hr1)
    .have hI:=λW' (hW':Ba W W')=>ih S1 W' F q.1 q.2 d (hf1.below hW') (hF.below (Below.behind hb1 hW')) (hTq.below (Below.behind hb1 hW')) (hgi q hq) hd1;rw[Ln q.1 k2,k1]at hI⊢;have e3:Nw (N9 n) q.2 d=N9 n q.2 d:=by rw[k3];rfl
     rw[e3];exact bJ sent q.1.fr q.1.ra q.1.text p' l.length c' d hf1 _ hI
   by_cases h2:ps.length=2
   .obtain⟨g,cap,e1,e2,hr5⟩:=OD hrow (by omega) hsub;match ps,h2 with
    | [a,b],_=>
     rw[Ln e e1,h1];show Calls _ _ _ _ (Lc sent B S w (Gw (N9 n) e.fr a.2 b.2 za));refine bP sent e.fr e.ra e.text za g cap _ hf λW hW=>?_;have hrW:=hr5.below hW;obtain⟨r1,p1,m1,c1,s1⟩:=hrW.2 0 (by simp);obtain⟨r2,p2,m2,c2,s2⟩:=hrW.2 1 (by simp);have hTa:=hsub a (by simp);have hTb:=hsub b (by simp);have hga:=bB hTa (hgi a (by simp));have hgb:=bB hTb (hgi b (by simp));have s2':=s2;have s1':=s1;rw[<-xO hTa hTb s2' (N9 n) e.fr za];have r1':W.rangeAt g 0 [Ia ka (a.1.fr:Int),Ia ka (a.1.ra:Int),Oa a.1.mc,La a.1.text,Ma p1 m1 c1]:=by have o:=r1;unfold Nj at o;rw[s1']at o;exact o
     have v:W.rangeAt g 5 [Ia ka (b.1.fr:Int),Ia ka (b.1.ra:Int),Oa b.1.mc,La b.1.text,Ma p2 m2 c2]:=by have r:=r2;unfold Nj at r;rw[s2']at r;exact r
     by_cases k:a.1.mc=true
     .have hq:∀q:Nat->Except Er Nd,G7 e.fr za a.1.mc a.1.text b.1.mc b.1.fr b.1.ra m2 b.1.text q=G7 e.fr za a.1.mc ⟨#[]⟩ b.1.mc b.1.fr b.1.ra m2 b.1.text q:=λq=>by unfold G7;rw[Zo k,Zo k]
      have C:a.1.text.size<=2048:=by
       cases n with
       |zero=>have :=hTa.1.1;rw[k]at this;cases this
       |succ n=>
        rcases hTa with h|⟨_,_,_,_,h,_⟩;.have :=h.1.1;rw[k]at this;cases this
        .rw[h,me];simp
      exact IF sent e.fr e.ra e.text g cap a.1.fr a.1.ra a.1.mc a.1.text p1 m1 c1 b.1.fr b.1.ra b.1.mc b.1.text p2 m2 c2 za (hf.below hW) (hF.below hW) hrW.1 r1' v C hd hgb.1 hgb.2.1 _ λd W' y j hW'=>by have :=hRef b (by simp) p2 m2 c2 s2' S W' d (hf.below (Below.behind hW hW')) (Below.behind hW hW') (by omega) (by unfold Sb at j;unfold El.ref;split at j<;>simp_all);rw[Ln b.1 s2']at this;exact this
     .exact IF sent e.fr e.ra e.text g cap a.1.fr a.1.ra a.1.mc a.1.text p1 m1 c1 b.1.fr b.1.ra b.1.mc b.1.text p2 m2 c2 za (hf.below hW) (hF.below hW) hrW.1 r1' v (hga.2.2 (by simpa using k)) hd hgb.1 hgb.2.1 _ λd W' y j hW'=>by have :=hRef b (by simp) p2 m2 c2 s2' S W' d (hf.below (Below.behind hW hW')) (Below.behind hW hW') (by omega) (by unfold Sb at j;unfold El.ref;split at j<;>simp_all);rw[Ln b.1 s2']at this;exact this
   .rw[vm (by rw[Zl];exact h2),Zl];by_cases f:ps.length=17
    .rw[Zo f];obtain⟨g,cap,e1,e2,hr5⟩:=OD hrow (by omega) hsub;rw[f]at e1 e2;rw[Ln e e1,h1];have u:(ps.map (·.1)).length=17:=by rw[Zl,f]
     have z:(ps.map (·.2)).length=17:=by rw[Zl,f]
     have t:∀i (s:i<(ps.map (λp:El×It=>p.1)).length),(ps.map (λp:El×It=>p.1))[i].fr<=(ps.map (λp:El×It=>p.1))[i].ra/\(ps.map (λp:El×It=>p.1))[i].ra<=2048:=λi s=>by rw[Zl]at s;simp only[Xf];have :=bB (hsub _ (Zy s)) (hgi _ (Zy s));exact⟨this.1,this.2.1⟩
     refine pR sent e.fr e.ra e.text za g cap _ hf λW hW=>?_;unfold Pv;rw[<-BL hsub];split
     .rename_i h
      exact CS sent e.fr e.ra e.text g cap _ za (hF.below hW) u e2 (hr5.below hW) t h
     .rename_i h
      have D:za<64:=by
       rcases Nat.lt_or_ge za 64 with e|e;.exact e
       .exact absurd (.inl e) h
      have E:Nz (ps.map (·.1))=true:=by
       cases hv:Nz (ps.map (·.1))with
       |true=>rfl
       |false=>exact absurd (.inr hv) h
      have :=IK sent e.fr e.ra e.text g cap (ps.map (·.1)) (ps.map (·.2)) za (N9 n) (hf.below hW) u e2 (hr5.below hW) t D E z (λi k1 k2=>by
       rw[Zl]at k1;simp only[Xf];exact RH (hsub _ (Zy k1))) (λi k1 k2 S1 W' _ hf1 hb1 hr1=>by
       rw[Zl]at k1;simp only[Xf]at hr1⊢;obtain⟨_,p,m,c,hs⟩:=hr5.2 i (by rw[Zl];exact k1);simp only[Xf]at hs;exact hRef _ (Zy k1) p m c hs S1 W' (za+1) hf1 (Below.behind hW hb1) (by omega) hr1)
      cases hk:Kw (N9 n) (za+1) ((ps.map (·.2)).take 16)with
      |error er=>rw[hk]at this;exact this
      |ok ns=>rw[hk]at this;exact this
    .rw[Zj f];rcases hrow with⟨k1,k2,_⟩|⟨g,cap,k1,_⟩;.rw[Ln e k1,h1];exact sx sent e.fr e.ra e.text za true none 0 0 hF (by simp)
     .rw[Ln e k1,h1];exact sx sent e.fr e.ra e.text za true _ ps.length cap hF (λ_=>⟨h2,f⟩)
end Go.Proofs.YtpfbdlnibdfcoaaGreatDoor
