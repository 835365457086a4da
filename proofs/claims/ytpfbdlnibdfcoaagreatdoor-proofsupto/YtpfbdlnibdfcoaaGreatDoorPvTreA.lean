import Derived.Test.YtpfbdlnibdfcoaaGreatDoorPvNodD
namespace Go.Proofs.YtpfbdlnibdfcoaaGreatDoor
open Go.RowKit Tryz
open Value renaming int->Ia,string->La,slice->Ma,bool->Oa,pointer->Qa,agg->Sa,tuple->Wa,iface->ca,nilIface->da
open IntKind renaming i64->ka
open Obj renaming cells->ma
open Ending renaming returned->na
open Tryz renaming prog->oa
set_option maxRecDepth 100000
set_option maxHeartbeats 0
def Rq:Nd->FuncId
 | .leaf _ _=>272
 | .ext _ _=>315
 | .br _=>278
 |_=>0
def Nd.shown:Nd->Bool
 | .leaf _ _=>true
 | .ext _ _=>true
 | .br _=>true
 |_=>false
theorem LC(t:Nd)(ht:t.shown=true)(a:Addr)(w:Fa):(Go.method 535 (K9 t) (Qa (some a)) "twigs/tree.put").run oa w=.ok (Rq t,Qa (some a)) w:=by
 cases t with
 |leaf _ _=>kernel_rfl
 |ext _ _=>kernel_rfl
 |br _=>kernel_rfl
 |_=>simp[Nd.shown]at ht
theorem eP(t:Nd)(ht:t.shown=true)(args:Array Value)(w:Fa):(callFunc (Rq t) args).run oa w=.ok (.enter (Rq t) args) w:=by
 cases t with
 |leaf _ _=>kernel_rfl
 |ext _ _=>kernel_rfl
 |br _=>kernel_rfl
 |_=>simp[Nd.shown]at ht
theorem iD(t:Nd)(ht:t.shown=true)(a:Addr)(w:Fa):(Instr.typeAssert (ca (K9 t) (Qa (some a))) 96 261 true).run oa w=.ok (Wa #[ca (K9 t) (Qa (some a)),Oa true]) w:=by
 cases t with
 |leaf _ _=>kernel_rfl
 |ext _ _=>kernel_rfl
 |br _=>kernel_rfl
 |_=>simp[Nd.shown]at ht
theorem fI(w:Fa):(Instr.typeAssert da 96 261 true).run oa w=.ok (Wa #[da,Oa false]) w:=by kernel_rfl
def Nd.Wk:Nd->Da->Prop
 | .no,_=>True
 | .leaf p _,r=>p.size=r.size
 | .ext p _,r=>p.size<r.size/\¬K7 p r
 | .br _,r=>0<r.size
 | .stub _,_=>False
variable{B b:Nat}{S:Bb}{w:Fa}{t:Nd}{r u:Da}
theorem QM(hf:ua B S w)(hb:S b=some t)(ht:t.shown=true)(hp:t.Wk r)(hr:Oc r)(hu:u.size<=1024):Calls oa (Rq t) #[Qa (some ⟨b,0,none⟩),La r,La u] w (mf B S w (t.putAt r u)):=by
 cases t with
 |leaf p v=>exact yN hf hb hp hr hu
 |ext p t=>exact uL hf hb hp.1 hp.2 hr hu
 |br ks=>exact RB hf hb hp rfl (hr.at hp) (hr.tail 1) hu
 |_=>simp[Nd.shown]at ht
theorem nc.Wk{t:Nd}{r:Da}{l:List (Nd×Da)}{e:Nd}{r':Da}(h:nc t r l e r'):∀(_:t.fits r.size) (_:t.ok) (_:∀h,e≠ .stub h),e.Wk r':=by
 induction h with
 | @stop t r h=>
  intro a b c;cases t with
  |no=>trivial
  |leaf p v=>rw[Nd.fits]at a;exact a
  |ext p t=>rw[Nd.fits]at a;rw[Nd.ok]at b;refine⟨a.2.1,λd=>?_⟩;rw[Nd.next,Zo d]at h;exact b.2.2 h
  |br ks=>rw[Nd.fits]at a;exact a.1
  |stub g=>exact absurd rfl (c g)
 | @go t r l e r' hn _ ih=>
  intro a b c;obtain⟨i,j,f⟩:=Nd.we a hn;refine ih (by rw[Cf];exact f) ?_ c;cases t with
  |ext p t=>
   rw[Nd.ok]at b;rw[Nd.next]at hn⊢;split;.exact b.2.1
   .rw[Nd.ok];trivial
  |br ks=>
   rw[Nd.ok]at b;rw[Nd.next]at hn⊢;rw[Yb]at hn⊢;cases hk:ks[(Ke r)[0]!]? with
   |none=>rw[Option.getD_none,Nd.ok];trivial
   |some x=>exact wu b.2 (Vw hk)
  |_=>exact absurd rfl hn
variable{e:Nd}{v:Value}
theorem fN(p:Option Addr)(m c:Nat)(hf:ua B S w)(hv:od S v e)(hs:∀h,e≠ .stub h)(hp:e.Wk r)(hr:Oc r)(hu:u.size<=1024):Calls oa 157 #[Sa #[Ma p m c,v,La r],La u] w (mf B S w (e.putAt r u)):=by
 have a:Ba w (w.alloc (ma #[Ma p m c,v,La r] 226)):=(Zb _ _).alloc (Za _) _;rcases hv with⟨rfl,rfl⟩|⟨hne,b,rfl,hb⟩
 .have g:=fI;have j:Hid (Fr B S (S.put (w.heap.size+1) (.leaf r u)) w ((w.alloc (ma #[Ma p m c,da,La r] 226)).alloc (ma #[La ⟨#[]⟩,La r,La u] 304))):=by have :=(Fr.xa hf a).trans (Fr.leaf (hf.below a) hr hu);rw[Yz]at this;exact this
  rw[show Nd.putAt .no r u=.leaf r u from rfl];clear hf hp hr hu hs a;go_enter func157,ntmps157;go_wp2;go_ret;exact⟨_,_,rfl,.inr ⟨by simp,w.heap.size+1,rfl,Bb.Ob _ _ _⟩,j.o⟩
 .have d:e.shown=true:=by
   cases e with
   |no=>exact absurd rfl hne
   |stub h=>exact absurd rfl (hs h)
   |_=>rfl
  have g:=iD e d;have q:=LC e d;have l:=eP e d;have o:=Hq (QM (hf.below a) hb d hp hr hu);have n:Hid (Fr B S S w _):=Fr.xa hf a;clear hf hp hr hu hs a hb;go_enter func157,ntmps157;go_wp2_with fail
  refine o.mono ?_;rintro x t ⟨s,k,rfl,i,f⟩;have j:Hid (od k s (e.putAt r u)/\Fr B S k w t):=⟨i,n.trans f⟩;clear i f g q l;go_wp2;go_ret;exact⟨_,_,rfl,j.o⟩
structure yd(B:Nat)(X:Nat->Prop)(S S':Bb)(w w':Fa):Prop where
 os:w'.os=w.os
 tape:w'.tape=w.tape
 output:w'.output=w.output
 size:w.heap.size<=w'.heap.size
 other:∀k,k<w.heap.size->S k=none->¬X k->w'.heap[k]? =w.heap[k]?
 wa:ua B S' w'
 sub:∀b t,S b=some t->S' b=some t
 new:∀k,k<w.heap.size->S k=none->S' k=none
variable{S':Bb}
theorem Fr.x{w':Fa}(h:Fr B S S' w w')(X:Nat->Prop):yd B X S S' w w':=⟨h.os,h.tape,h.output,h.size,λk a b _=>h.other k a b,h.wa,h.sub,h.new⟩
theorem yd.trans{B:Nat}{X:Nat->Prop}{S S1 S2:Bb}{w w1 w2:Fa}(h:yd B X S S1 w w1)(k:yd B X S1 S2 w1 w2):yd B X S S2 w w2:=⟨k.os.trans h.os,k.tape.trans h.tape,k.output.trans h.output,Z2 h.size k.size,λi hi hn hx=>(k.other i (Zm hi h.size) (h.new i hi hn) hx).trans (h.other i hi hn hx),k.wa,λb t hb=>k.sub b t (h.sub b t hb),λi hi hn=>k.new i (Zm hi h.size) (h.new i hi hn)⟩
variable{X:Nat->Prop}
theorem yd.set{w':Fa}(h:yd B X S S' w w')(a:Addr)(v:Value)(hx:X a.block)(hn:S' a.block=none):yd B X S S' w (w'.setCell a v):=by refine⟨h.os,h.tape,h.output,by simpa using h.size,λk b d c=>(Zd w' a v k λe=>c (by rw[e];exact hx)).trans (h.other k b d c),h.wa.Cb (by simp) λk t b=>Zd _ _ _ _ λe=>?_,h.sub,h.new⟩;rw[e,hn]at b;cases b
variable{l:List (Nd×Da)}
theorem FD{C:Nat}{t0:Nd}{thr u:Value}{cs:List Value}(hf:ua B S w)(ht:Ib S w b t0)(hO:Db w C 2 thr l.length cs)(hT:xe S l cs)(hnone:∀g,thr.ownBlock=some g->S g=none)(hv:v=da\/∃T a,v=ca T (Qa (some a)))(hu:od S u t)(hl:l.length<=1000)(hok:Av l t):Calls oa 156 #[Qa (some ⟨b,0,none⟩),Sa #[thr,v,La r],u] w λx w'=>x=na da/\∃S',Ib S' w' b (He l t)/\yd B (· =b) S S' w w':=by
 have d:Ba w (w.alloc (ma #[thr,v,La r] 226)):=(Zb _ _).alloc (Za _) _;have q:=Hq (TL (r:=r) (hf.below d) (hO.below d) hT hnone hv hu hl hok);have n:Hid (Fr B S S w (w.alloc (ma #[thr,v,La r] 226))/\Ib S w b t0):=⟨Fr.xa hf d,ht⟩;obtain⟨I,H,F,rfl⟩:=hO.shape;have D:=ht.lt;have p:=hu.shape;clear hf ht hO hT hnone hu hl hok d;rcases hv with rfl|⟨T,a,rfl⟩;all_goals rcases p with rfl|⟨T',a',rfl⟩
 all_goals
  go_enter func156,ntmps156;go_wp2_with fail
  refine q.mono ?_;rintro x j ⟨i,y,rfl,h,k⟩;have e:=n.1.trans k;obtain⟨f,v0,m,c⟩:=n.2.frame e;have E:j.cell? ⟨b,0,none⟩=some v0:=(xm c).1;have G:j.frozen? ⟨b,0,none⟩=false:=(xm c).2;have s:Hid ((∃S',Ib S' (j.setCell ⟨b,0,none⟩ i) b (He l t)/\yd B (· =b) S S' w (j.setCell ⟨b,0,none⟩ i))):=⟨y,⟨f,i,h,De (cs:=[v0]) c 0 i⟩,(e.x _).set _ _ rfl f⟩;have o:=h.shape;have z:=m.shape;clear h k e f m c;rcases o with rfl|⟨T3,a3,rfl⟩;all_goals go_wp2;go_ret;exact⟨rfl,s.o⟩
theorem OL(u:Da)(w:Fa)(h0:0<u.size)(h1:u.size<=100):Calls oa 154 #[La u] w λe w'=>e=na (Oa true)/\w'=w:=by
 have b:=lj u h0;have c:(u.size:Int)<=100:=by omega
 have a:=Z5 h1;go_enter func154,ntmps154;go_wp2;go_ret;exact⟨rfl,rfl⟩
theorem xe.sub{S S':Bb}(hs:∀b t,S b=some t->S' b=some t):∀{l:List (Nd×Da)} {cs:List Value},xe S l cs->xe S' l cs
 | [],_,h=>h
 |_::_,_,⟨v,cs',h1,h2,h3⟩=>⟨v,cs',h1,h2.sub hs,h3.sub hs⟩
theorem Dp{x y z:Value}{t:TypeId}(h:w.heap[b]? =some (ma #[x,y,z] t (0,0))):w.cell? ⟨b,0,none⟩=some x/\w.cell? ⟨b,1,none⟩=some y/\w.cell? ⟨b,2,none⟩=some z:=by refine⟨?_,?_,?_⟩<;>simp[World.cell?,h]
variable{r':Da}
theorem GD{W3:Fa}{g:Nat}{pv:Option Addr}{mv cv:Nat}(hf:ua B S w)(ht:Ib S w b t)(hb3:Ba w W3)(hgw:w.heap.size<=g)(hg3:W3.heap[g]? =some (ma #[Ma pv mv cv,v,La r'] 226 (0,0)))(hs3:g<W3.heap.size)(hF3:Followed S w.heap.size W3 l e (Ma pv mv cv) v)(hX:e.Wk r'/\Oc r'/\u.size<=100/\l.length<=1000/\Av l (e.putAt r' u)/\∀h,e≠ .stub h):(∀w4,Below W3.drew.heap.size W3.drew w4->(w4.cell? ⟨g,0,none⟩=some (Ma pv mv cv)/\w4.cell? ⟨g,1,none⟩=some v/\w4.cell? ⟨g,2,none⟩=some (La r'))/\Calls oa 157 #[Sa #[Ma pv mv cv,v,La r'],La u] w4 (mf B S w4 (e.putAt r' u))/\∀w5 v5 S5,od S5 v5 (e.putAt r' u)->Fr B S S5 w4 w5->(w5.cell? ⟨g,0,none⟩=some (Ma pv mv cv)/\w5.cell? ⟨g,1,none⟩=some v/\w5.cell? ⟨g,2,none⟩=some (La r'))/\Calls oa 156 #[Qa (some ⟨b,0,none⟩),Sa #[Ma pv mv cv,v,La r'],v5] w5 (λx w'=>x=na da/\∃S',Ib S' w' b (He l (e.putAt r' u))/\yd B (· =b) S5 S' w5 w')/\∀w6 S6,Ib S6 w6 b (He l (e.putAt r' u))->yd B (· =b) S5 S6 w5 w6->(w6.cell? ⟨g,0,none⟩=some (Ma pv mv cv)/\w6.cell? ⟨g,1,none⟩=some v/\w6.cell? ⟨g,2,none⟩=some (La r'))/\Ib S6 w6 b (He l (e.putAt r' u))/\yd B (· =b) S S6 w w6)/\True:=by refine⟨λw4 f=>?_,trivial⟩;have J:=ht.lt;have d:Ba W3 w4:=⟨f.os,f.tape,f.output,f.size,f.block⟩;have E:=hb3.trans (d.mono hb3.size);have n:=(d.block g hs3).trans hg3;have i:=hF3.Cb d;have j:=Fr.xa hf E;have s:=hf.fresh hgw;obtain⟨K,y,D⟩:=i.row;refine⟨Dp n,fN pv mv cv j.wa i.node hX.2.2.2.2.2 hX.1 hX.2.1 (by omega),λw5 v5 S5 H a=>?_⟩;have p:=(Zg.1 n).1;have o:=(a.other g p s).trans n;have r:∀k,(Value.slice pv mv cv).ownBlock=some k->S k=none:=λk c=>hf.fresh (y.block k c).1;have C:=y.Cb a.size λk c I=>a.other k c (r k I);have m:=j.trans a;refine⟨Dp o,FD a.wa (ht.frame m) C (D.sub a.sub) (λk c=>a.new k (y.block k c).2 (r k c)) i.node.shape H hX.2.2.2.1 hX.2.2.2.2.1,λw6 S6 G q=>?_⟩;have z:=(Zg.1 o).1;have F:=(q.other g z (a.new g p s) (by show ¬g=b;omega)).trans o;exact⟨Dp F,G,(m.x _).trans q⟩
variable{K:Array Nat}{p:Da}
theorem CP(hf:ua B S w)(ht:Ib S w b t)(hto:t.ok)(hK:K.size=32)(hKb:K3 K)(hp:Kg (Kl K.toList)=p)(hfit:t.fits p.size)(hn:∀x∈Ke p,x<16)(hps:p.size<=64)(hT:nc t p l e r')(hs:∀h,e≠ .stub h)(hr:Oc r')(hu0:0<u.size)(hu1:u.size<=100)(hl:l.length<=1000)(hok:Av l (e.putAt r' u)):Calls oa 101 #[Qa (some ⟨b,0,none⟩),Sa (K.toList.map Kf).toArray,La u] w λx w'=>x=na da/\∃S',Ib S' w' b (He l (e.putAt r' u))/\yd B (· =b) S S' w w':=by
 have M:=hT.Wk hfit hto hs;have H:Ba w (w.alloc (ma (K.toList.map Kf).toArray 37)):=(Zb _ _).alloc (Za _) _;have X:(w.alloc (ma (K.toList.map Kf).toArray 37)).rangeAt w.heap.size 0 (K.toList.map Kf):=λj u hu=>by rw[Zf,Ze];simpa using hu
 have ac:=Mb hK
 have HI:=λW=>Hq (OL u W hu0 hu1);have Q:=Hq (Dw (hf.below H) (ht.frame (Fr.xa hf H)) hK hKb hp hfit hn (by omega) hT hs);have I:Hid (ua B S w/\Ib S w b t/\Ba w (w.alloc (ma (K.toList.map Kf).toArray 37))):=⟨hf,ht,H⟩;have N:Hid (e.Wk r'/\Oc r'/\u.size<=100/\l.length<=1000/\Av l (e.putAt r' u)/\∀h,e≠ .stub h):=⟨M,hr,hu1,hl,hok,hs⟩;clear hf ht hto hK hKb hp hfit hn hps hT hs hr hu0 hu1 hl hok M H;go_enter func101,ntmps101;go_upto_region 6 with(first| (go_at_call 154;refine(HI _).mono ?_;rintro x w1 ⟨rfl,rfl⟩)| (refine Zr rfl 37 _ rfl w.heap.size 0 rfl _ _ X underlying37 rfl ac ?_)| (go_at_call 155;refine Q.mono ?_;rintro x c ⟨O,ag,v2,rfl,G⟩;obtain⟨k,i,g,rfl⟩:=G.shape;have ae:=G.node.shape;have d:Hid (Ba w c/\Followed S w.heap.size c l e (Ma k i g) v2):=⟨I.2.2.va O,G.mono (by simp)⟩;clear O G;rcases ae with rfl|⟨T2,a2,rfl⟩))
 .obtain⟨W3,a⟩:=nm (c.alloc (ma #[Ma k i g,da,La r'] 226));have y:c.heap.size<W3.heap.size:=by rw[<-a];simp
  have q:Ba w W3:=by rw[<-a];exact d.1.alloc d.1.size _
  have f:W3.heap[c.heap.size]? =some (ma #[Ma k i g,da,La r'] 226 (0,0)):=by rw[<-a];exact Z6
  have o:Followed S w.heap.size W3 l e (Ma k i g) (da):=by rw[<-a];exact d.2.Cb ((Zb _ _).alloc (Za _) _)
  rw[a];have P:=Hq (GD I.1 I.2.1 q d.1.size f y o N.o);obtain⟨T,U,V⟩:=Dp f;clear a y q f o Q;go_region_held3 (λw'=>w'.cell? ⟨c.heap.size,0,none⟩=some (Ma k i g)/\w'.cell? ⟨c.heap.size,1,none⟩=some (da)/\w'.cell? ⟨c.heap.size,2,none⟩=some (La r')) (first|exact⟨T,U,V⟩|exact A4|exact A5|exact A6) (first| (go_at_call 158;refine(Bz u _ (by have :=N.o;omega)).mono ?_;rintro x Z ⟨rfl,r⟩;obtain⟨A4,D⟩:=P.1 Z r;have m:=Hq D;clear r D)| (go_at_call 157;refine m.1.mono ?_;rintro x w5 ⟨Y,R,rfl,C,s⟩;obtain⟨A5,E⟩:=m.2 w5 Y R C s;have n:=Hq E;clear C s E)| (go_at_call 156;refine n.1.mono ?_;rintro x w6 ⟨rfl,L,z,v⟩;obtain⟨A6,F⟩:=n.2 w6 L z v;have J:=Hq F;clear z v F))
  all_goals go_wp2
  all_goals go_ret
  all_goals exact⟨rfl,L,J.o⟩
 .obtain⟨W3,a⟩:=nm (c.alloc (ma #[Ma k i g,ca T2 (Qa (some a2)),La r'] 226));have y:c.heap.size<W3.heap.size:=by rw[<-a];simp
  have q:Ba w W3:=by rw[<-a];exact d.1.alloc d.1.size _
  have f:W3.heap[c.heap.size]? =some (ma #[Ma k i g,ca T2 (Qa (some a2)),La r'] 226 (0,0)):=by rw[<-a];exact Z6
  have o:Followed S w.heap.size W3 l e (Ma k i g) (ca T2 (Qa (some a2))):=by rw[<-a];exact d.2.Cb ((Zb _ _).alloc (Za _) _)
  rw[a];have P:=Hq (GD I.1 I.2.1 q d.1.size f y o N.o);obtain⟨T,U,V⟩:=Dp f;clear a y q f o Q;go_region_held3 (λw'=>w'.cell? ⟨c.heap.size,0,none⟩=some (Ma k i g)/\w'.cell? ⟨c.heap.size,1,none⟩=some (ca T2 (Qa (some a2)))/\w'.cell? ⟨c.heap.size,2,none⟩=some (La r')) (first|exact⟨T,U,V⟩|exact A4|exact A5|exact A6) (first| (go_at_call 158;refine(Bz u _ (by have :=N.o;omega)).mono ?_;rintro x Z ⟨rfl,r⟩;obtain⟨A4,D⟩:=P.1 Z r;have m:=Hq D;clear r D)| (go_at_call 157;refine m.1.mono ?_;rintro x w5 ⟨Y,R,rfl,C,s⟩;obtain⟨A5,E⟩:=m.2 w5 Y R C s;have n:=Hq E;clear C s E)| (go_at_call 156;refine n.1.mono ?_;rintro x w6 ⟨rfl,L,z,v⟩;obtain⟨A6,F⟩:=n.2 w6 L z v;have J:=Hq F;clear z v F))
  all_goals go_wp2
  all_goals go_ret
  all_goals exact⟨rfl,L,J.o⟩
theorem MT(hf:ua B S w):Calls oa 11 #[] w λe w'=>e=na (Qa (some ⟨w.heap.size,0,none⟩))/\Ib S w' w.heap.size .no/\Fr B S S w w'/\w'=w.alloc (ma #[da] 100):=by have a:Hid (Ib S (w.alloc (ma #[da] 100)) w.heap.size .no/\Fr B S S w (w.alloc (ma #[da] 100))):=⟨⟨hf.fresh (Za _),da,.inl ⟨rfl,rfl⟩,Z6⟩,Fr.xa hf ((Zb _ _).alloc (Za _) _)⟩;clear hf;go_enter func11,ntmps11;go_wp2;go_ret;exact⟨rfl,a.1,a.2,rfl⟩
theorem WS(hf:ua B S w)(ht:Ib S w b t)(hto:t.ok)(hK:K.size=32)(hKb:K3 K)(hp:Kg (Kl K.toList)=p)(hfit:t.fits p.size)(hn:∀x∈Ke p,x<16)(hps:p.size<=64)(hT:nc t p l e r')(hs:∀h,e≠ .stub h)(hr:Oc r')(hu0:0<u.size)(hu1:u.size<=100)(hl:l.length<=1000)(hok:Av l (e.putAt r' u)):Calls oa 50 #[Qa (some ⟨b,0,none⟩),Sa (K.toList.map Kf).toArray,La u] w λx w'=>x=na (Ia ka 0)/\∃S',Ib S' w' b (He l (e.putAt r' u))/\yd B (· =b) S S' w w':=by
 have D:=ht.lt;have E:=Mb hK
 obtain⟨W0,c⟩:=nm (w.alloc (ma (K.toList.map Kf).toArray 37));have d:Ba w W0:=by rw[<-c];exact(Zb _ _).alloc (Za _) _
 have r:w.heap.size<W0.heap.size:=by rw[<-c];simp
 have g:W0.rangeAt w.heap.size 0 (K.toList.map Kf):=λj u z=>by rw[<-c,Zf,Ze];simpa using z
 have n:=Fr.xa hf d;have i:=d.drew;have a:=Fr.xa hf i;have v:=Hq (CP a.wa (ht.frame a) hto hK hKb hp hfit hn hps hT hs hr hu0 hu1 hl hok);have q:=Hq (A2 a (hf.fresh (Za _)));have C:=underlying37;clear hf ht hto hK hKb hp hfit hn hps hT hs hr hu0 hu1 hl hok d n i a;go_enter func50,ntmps50;go_upto_region 1 with fail
 clear c;go_region_held3 (λw'=>w'.rangeAt w.heap.size 0 (K.toList.map Kf)) (first|exact g|exact y) (first| (go_at_call 101;refine v.mono ?_;rintro x o ⟨rfl,m,k,f⟩;have y:o.rangeAt w.heap.size 0 (K.toList.map Kf):=zc g (f.other w.heap.size r q.2 (by show ¬w.heap.size=b;omega));have s:Hid (Ib m o b (He l (e.putAt r' u))/\yd B (· =b) S m w o):=⟨k,(q.1.x _).trans f⟩;clear k f)| (go_at_call 75;refine(xu _).mono ?_;rintro x F ⟨rfl,rfl⟩))
 all_goals go_wp2
 all_goals go_ret
 all_goals exact⟨rfl,m,s.o⟩
end Go.Proofs.YtpfbdlnibdfcoaaGreatDoor
