import Derived.Test.YtpfbdlnibdfcoaaGreatDoorPvPuG
import Derived.Test.YtpfbdlnibdfcoaaGreatDoorPvUnpack
namespace Go.Proofs.YtpfbdlnibdfcoaaGreatDoor
open Go.RowKit Tryz
open Value renaming int->Ia,string->La,slice->Ma,bool->Oa,pointer->Qa,agg->Sa,tuple->Wa,iface->ca,nilIface->da
open IntKind renaming i64->ka
open Obj renaming cells->ma
open Ending renaming returned->na
open Tryz renaming prog->oa
set_option maxRecDepth 100000
set_option maxHeartbeats 0
def It.So:It->Bool
 | .text _ _ _=>false
 | .list _ _ _=>true
def It.pd:It->Bool
 | .text _ _ t=>decide (t.length=0)
 | .list _ _ _=>false
def It.Sf:It->Bool
 | .text _ _ t=>decide (t.length=32)
 | .list fr en _=>decide (en-fr<32)
def Ay(fr:Nat):Er:=.place fr (.base 8)
def Nw(rd:It->Nat->Except Er Nd)(x:It)(za:Nat):Except Er Nd:=match x with
 | .text _ _ t=>.ok (.stub t)
 | .list a b l=>rd (.list a b l) za
def Kw(rd:It->Nat->Except Er Nd)(za:Nat):List It->Except Er (List Nd)
 | []=>.ok []
 |x::xs=>
  if x.pd=true then
   match Kw rd za xs with
   | .error e=>.error e
   | .ok ns=>.ok (.no::ns)
  else
   match Nw rd x za with
   | .error e=>.error e
   | .ok n=>
    match Kw rd za xs with
    | .error e=>.error e
    | .ok ns=>.ok (n::ns)
def Pu(l:List It):Bool:=(l.take 16).all (λx=>x.Sf||x.pd)&&(decide (2<=((l.take 16).filter It.Sf).length)&&(l.drop 16).all It.pd)
def Pv(rd:It->Nat->Except Er Nd)(fr:Nat)(l:List It)(za:Nat):Except Er Nd:=if 64<=za\/Pu l=false then .error (Ay fr)
 else
  match Kw rd (za+1) (l.take 16)with
  | .error e=>.error e
  | .ok ns=>.ok (.br ns)
def It.Sb:It->Bool
 | .text _ _ t=>decide (t.length=32)
 | .list fr en l=>decide (en-fr<32)&&decide (l.length=17)
def It.val? :It->Bool
 | .text _ _ t=>decide (0<t.length)&&decide (t.length<=100)
 | .list _ _ _=>false
def It.bytes:It->List Nat
 | .text _ _ t=>t
 | .list _ _ _=>[]
def Pm(rd:It->Nat->Except Er Nd)(fr:Nat)(p:List Nat)(b:It)(za:Nat):Except Er Nd:=if p.length=0\/64<=za\/b.Sb=false then .error (Ay fr)
 else
  match Nw rd b za with
  | .error e=>.error e
  | .ok t=>.ok (.ext (Kg p) t)
def Gw(rd:It->Nat->Except Er Nd)(fr:Nat)(a b:It)(za:Nat):Except Er Nd:=match a with
 | .list _ _ _=>.error (Ay fr)
 | .text _ _ t=>
  match K6 t with
  |none=>.error (.place fr (.noNode (.base 3)))
  |some (p,leaf)=>
   if leaf=true then
    if za+p.length≠64\/b.val? =false then .error (Ay fr)else .ok (.leaf (Kg p) (Kg b.bytes))
   else Pm rd fr p b (za+p.length)
def To(rd:It->Nat->Except Er Nd)(fr:Nat)(l:List It)(za:Nat):Except Er Nd:=match l with
 | [a,b]=>Gw rd fr a b za
 |_=>if l.length=17 then Pv rd fr l za else .error (Ay fr)
theorem oq(rd:It->Nat->Except Er Nd)(fr:Nat)(a b:It)(za:Nat):To rd fr [a,b] za=Gw rd fr a b za:=rfl
variable{rd:It->Nat->Except Er Nd}{fr za:Nat}
theorem vm{l:List It}(h:l.length≠2):To rd fr l za=if l.length=17 then Pv rd fr l za else .error (Ay fr):=by
 match l,h with
 | [],_=>rfl
 | [_],_=>rfl
 | [_,_],h=>exact absurd rfl h
 |_::_::_::_,_=>rfl
theorem nr{l:List It}(h:l.length=2):∃a b,l=[a,b]:=by
 match l,h with
 | [a,b],_=>exact⟨a,b,rfl⟩
def N9:Nat->It->Nat->Except Er Nd
 |0,x,_=>.error (Ay x.fr)
 |n+1,x,za=>
  match x with
  | .text fr _ _=>.error (Ay fr)
  | .list fr _ l=>To (N9 n) fr l za
mutual
def It.Md(N:Nat):It->Prop
 | .text fr en t=>fr<=en/\en<=N/\(Kh t).length=en-fr/\∀y∈t,y<256
 | .list fr en l=>fr<=en/\en<=N/\(Ks (P3 l)).length=en-fr/\Hr N l
def Hr(N:Nat):List It->Prop
 | []=>True
 |x::l=>x.Md N/\Hr N l
end
theorem Me{N:Nat}:∀{l:List It},Hr N l↔∀x∈l,x.Md N
 | []=>by rw[Hr];simp
 |x::l=>by rw[Hr,Me (l:=l)];simp
mutual
theorem It.Si{N M:Nat}(h:N<=M):∀x:It,x.Md N->x.Md M
 | .text _ _ _,g=>by rw[It.Md]at g⊢;exact⟨g.1,Z2 g.2.1 h,g.2.2⟩
 | .list _ _ l,g=>by rw[It.Md]at g⊢;exact⟨g.1,Z2 g.2.1 h,g.2.2.1,XA h l g.2.2.2⟩
theorem XA{N M:Nat}(h:N<=M):∀l:List It,Hr N l->Hr M l
 | [],_=>by rw[Hr];trivial
 |x::l,g=>by rw[Hr]at g⊢;exact⟨It.Si h x g.1,XA h l g.2⟩
end
theorem oG{rd:Nat->Except Er It}{n:Nat}(hr:∀fr x,fr<=n->rd fr=.ok x->x.Md n/\x.ra<=n):∀(k fr:Nat) (l:List It),fr<=n->Na rd n k fr=.ok l->Hr n l
 |0,_,_,_,h=>by rw[Na]at h;cases h;rw[Hr];trivial
 |k+1,fr,l,hf,h=>by
  rw[Na]at h;split at h
  .cases hx:rd fr with
   |error e=>rw[hx]at h;cases h
   |ok x=>
    rw[hx]at h;simp only at h;cases hl:Na rd n k x.ra with
    |error e=>rw[hl]at h;cases h
    |ok l'=>rw[hl]at h;cases h;obtain⟨h1,h2⟩:=hr fr x hf hx;rw[Hr];exact⟨h1,oG hr k x.ra l' h2 hl⟩
  .cases h;rw[Hr];trivial
variable{l:List Nat}{x:It}
theorem mh.len(h:mh l fr x):x.code.length=x.ra-x.fr:=by obtain⟨a,c,d,b⟩:=h;rw[b,Zx,Yi,a];omega
theorem ZD(hl:∀y∈l,y<256){a b:Nat}{t:List Nat}(h:mh l fr (.text a b t)):(It.text a b t).Md l.length:=by
 have i:=h.len;obtain⟨d,e,f,g⟩:=h;have k:a=fr:=d;have m:fr<b:=e;have c:b<=l.length:=f;rw[It.Md];refine⟨by omega,c,i,λy j=>hl y ?_⟩;have :y∈(It.text a b t).code:=by rw[It.code];unfold Kh;exact Vc _ j
 rw[g]at this;exact Yu (Y4 this)
theorem jD:∀(d:Nat) (l:List Nat) (fr:Nat) (x:It),(∀y∈l,y<256)->fr<=l.length->Kx d l fr=.ok x->x.Md l.length
 |0,l,fr,x,hl,hfr,h=>by
  have hO:=ss 0 l fr x hl hfr h;rw[Kx]at h;cases hh:Ny (l.drop fr)with
  |error e=>rw[hh]at h;cases h
  |ok q=>
   obtain⟨mc,a,b⟩:=q;rw[hh]at h;simp only at h;split at h;.cases h
   .cases h;exact ZD hl hO
 |d+1,l,fr,x,hl,hfr,h=>by
  have hO:=ss (d+1) l fr x hl hfr h;rw[Kx]at h;cases hh:Ny (l.drop fr)with
  |error e=>rw[hh]at h;cases h
  |ok q=>
   obtain⟨mc,a,b⟩:=q;rw[hh]at h;simp only at h;split at h
   .cases hi:Na (Kx d (l.take (fr+a+b))) (fr+a+b) b (fr+a)with
    |error e=>rw[hi]at h;cases h
    |ok its=>
     rw[hi]at h;cases h;have h5:=hO.len;obtain⟨h1,h2,h3,h4⟩:=hO;have e2:=h2;have e3:fr+a+b<=l.length:=h3;have e4:(l.take (fr+a+b)).length=fr+a+b:=by rw[Zx];omega
     rw[It.Md];refine⟨by omega,e3,h5,XA e3 _ (oG (λf y hf hy=>?_) b (fr+a) its (by omega) hi)⟩;have hl2:∀y∈l.take (fr+a+b),y<256:=λy hy=>hl y (Y4 hy);have g1:=jD d (l.take (fr+a+b)) f y hl2 (by omega) hy;have g2:=ss d (l.take (fr+a+b)) f y hl2 (by omega) hy;rw[e4]at g1;exact⟨g1,by have :=g2.2.2.1;omega⟩
   .cases h;exact ZD hl hO
theorem zA(hl:∀y∈l,y<256)(h:Gb l=.ok x):x.Md 2048:=by
 obtain⟨a,_⟩:=mC hl h;unfold Gb at h;rw[Zj (by omega)]at h;cases hx:Kx 6 l 0 with
 |error e=>rw[hx]at h;cases h
 |ok y=>
  rw[hx]at h;simp only at h;split at h;.cases h
  .cases h;exact It.Si a _ (jD 6 l 0 _ hl (Xa _) hx)
def Un(rd:It->Nat->Except Er Nd):Prop:=∀x za t,x.Md 2048->za<=64->rd x za=.ok t->t.ok/\t.fits (64-za)/\t≠ .no
variable{t:Nd}
theorem TH(hr:Un rd)(hx:x.Md 2048)(hd:za<=64)(h32:∀a b s,x=.text a b s->s.length=32)(h:Nw rd x za=.ok t):t.ok/\t.fits (64-za)/\t≠ .no:=by
 cases x with
 |text a b s=>rw[Nw]at h;cases h;rw[It.Md]at hx;rw[Nd.ok,Nd.fits];exact⟨⟨h32 a b s rfl,hx.2.2.2⟩,trivial,by simp⟩
 |list a b l=>rw[Nw]at h;exact hr _ _ _ hx hd h
theorem gA{rd:It->Nat->Except Er Nd}(hr:Un rd){za:Nat}(hd:za<=64):∀(l:List It) (ns:List Nd),Hr 2048 l->(∀x∈l,(x.Sf||x.pd)=true)->Kw rd za l=.ok ns->ns.length=l.length/\(∀t∈ns,t.ok/\t.fits (64-za))
 | [],ns,_,_,h=>by rw[Kw]at h;cases h;simp
 |x::l,ns,hg,ha,h=>by
  rw[Hr]at hg;rw[Kw]at h;split at h
  .cases hk:Kw rd za l with
   |error e=>rw[hk]at h;cases h
   |ok ms=>
    rw[hk]at h;cases h;obtain⟨h1,h2⟩:=gA hr hd l ms hg.2 (λy hy=>ha y (Yy _ hy)) hk;refine⟨by simp[h1],λt ht=>?_⟩;rcases Yf.1 ht with rfl|ht;.rw[Nd.ok,Nd.fits];exact⟨trivial,trivial⟩
    .exact h2 t ht
  .rename_i he
   cases hn:Nw rd x za with
   |error e=>rw[hn]at h;cases h
   |ok n=>
    rw[hn]at h;simp only at h;cases hk:Kw rd za l with
    |error e=>rw[hk]at h;cases h
    |ok ms=>
     rw[hk]at h;cases h;obtain⟨h1,h2⟩:=gA hr hd l ms hg.2 (λy hy=>ha y (Yy _ hy)) hk;have hx:=ha x (Yj ..);rw[Bool.or_eq_true]at hx;obtain⟨h3,h4,_⟩:=TH hr hg.1 hd (λa b s e=>by
      subst e;rcases hx with hx|hx;.simpa[It.Sf]using hx
      .exact absurd hx he) hn
     refine⟨by simp[h1],λt ht=>?_⟩;rcases Yf.1 ht with rfl|ht;.exact⟨h3,h4⟩
     .exact h2 t ht
theorem WE:∀n,Un (N9 n)
 |0=>λx za t _ _ h=>by rw[N9]at h;cases h
 |n+1=>λx za t hx hd h=>by
  have ih:=WE n;cases x with
  |text a b s=>rw[N9]at h;cases h
  |list fr en l=>
   rw[N9]at h;rw[It.Md]at hx;obtain⟨_,_,_,hg⟩:=hx;by_cases h2:l.length=2
   .obtain⟨a,b,rfl⟩:=nr h2;rw[oq]at h;rw[Hr,Hr]at hg;unfold Gw at h;cases a with
    |list _ _ _=>cases h
    |text a1 a2 s=>
     simp only at h;have hs:=hg.1;rw[It.Md]at hs;cases hu:K6 s with
     |none=>rw[hu]at h;cases h
     |some q=>
      obtain⟨p,leaf⟩:=q;rw[hu]at h;simp only at h;obtain⟨hp1,_,_⟩:=nH hs.2.2.2 hu;have hbt:Ke (Kg p)=p:=qg λy hy=>by have :=hp1 y hy;omega
      split at h
      .split at h;.cases h
       .rename_i hc
        cases h;have hc1:=Decidable.byContradiction λe=>hc (.inl e);have hc2:b.val? =true:=by
         cases hv:b.val? with
         |true=>rfl
         |false=>exact absurd (.inr hv) hc
        cases b with
        |list _ _ _=>simp[It.val?]at hc2
        |text b1 b2 v=>simp only[It.val?,X5,Jw]at hc2;rw[Nd.ok,Nd.fits];refine⟨⟨⟨by rw[me];omega,by rw[hbt];exact hp1⟩,by rw[me];show v.length<=1024;omega⟩,by rw[me];omega,by simp⟩
      .unfold Pm at h;split at h;.cases h
       .rename_i hc
        have hc1:0<p.length:=by
         rcases Nat.eq_zero_or_pos p.length with e|e;.exact absurd (.inl e) hc
         .exact e
        have hc2:za+p.length<64:=by
         rcases Nat.lt_or_ge (za+p.length) 64 with e|e;.exact e
         .exact absurd (.inr (.inl e)) hc
        have c:b.Sb=true:=by
         cases hv:b.Sb with
         |true=>rfl
         |false=>exact absurd (.inr (.inr hv)) hc
        cases hn:Nw (N9 n) b (za+p.length)with
        |error e=>rw[hn]at h;cases h
        |ok m=>rw[hn]at h;cases h;obtain⟨f,g,i⟩:=TH ih hg.2.1 (by omega) (λa b s e=>by subst e;simpa[It.Sb]using c) hn;rw[Nd.ok,Nd.fits,me];refine⟨⟨⟨by rw[me];omega,by rw[hbt];exact hp1⟩,f,i⟩,⟨hc1,by omega,by rw[show 64-za-p.length=64-(za+p.length)by omega];exact g⟩,by simp⟩
   .rw[vm h2]at h;split at h
    .rename_i h17
     unfold Pv at h;split at h;.cases h
     .rename_i hc
      have hc1:za<64:=by
       rcases Nat.lt_or_ge za 64 with e|e;.exact e
       .exact absurd (.inl e) hc
      have hc2:Pu l=true:=by
       cases hv:Pu l with
       |true=>rfl
       |false=>exact absurd (.inr hv) hc
      cases hk:Kw (N9 n) (za+1) (l.take 16)with
      |error e=>rw[hk]at h;cases h
      |ok ms=>rw[hk]at h;cases h;unfold Pu at hc2;rw[X5]at hc2;obtain⟨d,h2⟩:=gA ih (by omega) (l.take 16) ms (Me.2 λy hy=>Me.1 hg y (Y4 hy)) (λy hy=>Xy.1 hc2.1 y hy) hk;rw[Zx]at d;rw[Nd.ok,Nd.fits];refine⟨⟨by omega,Cw λy hy=>(h2 y hy).1⟩,⟨by omega,SS λy hy=>by rw[show 64-za-1=64-(za+1)by omega];exact(h2 y hy).2⟩,by simp⟩
    .cases h
def Nd.walk:Nat->Nd->Da->Nd×Da
 |0,t,r=>(t,r)
 |n+1,t,r=>if(t.next r).1.rf=true then(t,r)else(t.next r).1.walk n (r.extract (t.next r).2 r.size)
theorem jy(h:t≠ .no):t.rf=false:=by
 cases hn:t.rf with
 |false=>rfl
 |true=>exact absurd (Nd.sf.1 hn) h
variable{r:Da}
theorem ju{n:Nat}(h:(t.next r).1=.no):t.walk n r=(t,r):=by
 cases n with
 |zero=>rfl
 |succ n=>rw[Nd.walk,Zo (Nd.sf.2 h)]
theorem EB{n:Nat}(h:(t.next r).1≠ .no):t.walk (n+1) r=(t.next r).1.walk n (r.extract (t.next r).2 r.size):=by rw[Nd.walk,Zj (by rw[jy h];simp)]
theorem eD:∀(n:Nat) (t:Nd) (r:Da),t.fits r.size->r.size<=n->∃l,nc t r l (t.walk n r).1 (t.walk n r).2/\l.length<=r.size/\(t.walk n r).1.fits (t.walk n r).2.size/\(t.walk n r).2.size<=r.size
 |n,t,r,hf,hn=>by
  by_cases h:(t.next r).1=.no;.rw[ju h];exact⟨[],.stop h,Xa _,hf,Za _⟩
  .obtain⟨k1,k2,k3⟩:=Nd.we hf h;cases n with
   |zero=>omega
   |succ n=>rw[EB h];obtain⟨l,h1,h2,h3,h4⟩:=eD n (t.next r).1 (r.extract (t.next r).2 r.size) (by rw[Cf];exact k3) (by rw[Cf];omega);rw[Cf]at h2 h4;exact⟨_,.go h h1,by simp;omega,h3,by omega⟩
def Pc(c h:List Nat)(za:Nat):Except Er Nd:=if 700<c.length then .error (.base 1)
 else if Ky c≠h then .error (.base 7)
 else
  match Gb c with
  | .error e=>.error e
  | .ok x=>N9 6 x za
theorem SH{c h:List Nat}(hc:∀y∈c,y<256)(hd:za<=64)(hs:Pc c h za=.ok t):t.ok/\t.fits (64-za)/\t≠ .no:=by
 unfold Pc at hs;split at hs;.cases hs
 .split at hs;.cases hs
  .cases hx:Gb c with
   |error e=>rw[hx]at hs;cases hs
   |ok x=>rw[hx]at hs;exact WE 6 x za t (zA hc hx) hd hs
def P7(e:Nd)(r:Da):Option Da:=match e with
 | .leaf p v=>if p=r then some v else none
 |_=>none
def Ep(q:Nd×Da):Option (List Nat×Da):=match q with
 | (.stub h,r)=>some (h,r)
 |_=>none
def Af:List (List Nat)->List Nat->Da->Nat->Except Er (Option Da)
 | [],_,_,k=>.error (.inNode k (.base 2))
 |c::L,h,r,k=>
  match Pc c h (64-r.size)with
  | .error e=>.error (.inNode k e)
  | .ok t=>
   match Ep (t.walk 64 r)with
   |some (h',r')=>Af L h' r' (k+1)
   |none=>if L=[]then .ok (P7 (t.walk 64 r).1 (t.walk 64 r).2)else .error (.inNode (k+1) (.base 4))
def Ao(root:List Nat)(p:Da)(L:List (List Nat)):Except Er (Option Da):=if L=[]/\root=Ky (Kh [])then .ok none else Af L root p 0
theorem kw(s:Da)(h:s.size=0):s.toList.isEmpty=true:=by
 rw[Vn];have :s.data.toList.length=s.size:=by simp
 have e:s.data.toList=[]:=Ye (by omega);rw[e];rfl
theorem RC(fr en:Nat)(l:Bool)(tx:Da)(p:Option Addr)(m c:Nat)(w:Fa):Calls oa 236 #[Sa #[Ia ka (fr:Int),Ia ka (en:Int),Oa l,La tx,Ma p m c]] w λe w'=>e=na (Oa (!l&&decide (tx.size=0)))/\Ba w w':=by
 cases l with
 |true=>go_enter func236,ntmps236;go_wp2;go_ret;exact⟨rfl,(Zb _ _).alloc (Za _) _⟩
 |false=>
  by_cases h:tx.size=0;.have a:=kw tx h;rw[Z5 h];clear h;go_enter func236,ntmps236;go_wp2;go_ret;exact⟨rfl,(Zb _ _).alloc (Za _) _⟩
  .have a:=lj tx (by omega);rw[Zt h];clear h;go_enter func236,ntmps236;go_wp2;go_ret;exact⟨rfl,(Zb _ _).alloc (Za _) _⟩
theorem iA(a b:Nat)(ha:a<=2048)(hb:b<=2048)(h:b<=a):wrap64 ((a:Int)-(b:Int))=((a-b:Nat):Int):=by rw[show(a:Int)-(b:Int)=((a-b:Nat):Int)by omega];exact Oy _ (by omega)
theorem TC(fr en:Nat)(l:Bool)(tx:Da)(p:Option Addr)(m c:Nat)(w:Fa)(h1:fr<=en)(h2:en<=2048):Calls oa 241 #[Sa #[Ia ka (fr:Int),Ia ka (en:Int),Oa l,La tx,Ma p m c]] w λe w'=>e=na (Oa (if l=true then decide (en-fr<32)else decide (tx.size=32)))/\Ba w w':=by
 cases l with
 |true=>
  have f:=iA en fr h2 (by omega) h1;obtain⟨d,a⟩:=nm (en-fr);rw[Zo rfl];rw[a]at f⊢;clear h1 h2 a;by_cases h:d<32
  .have b:(d:Int)<32:=by omega
   rw[Z5 h];clear h;go_enter func241,ntmps241;go_wp2;go_ret;exact⟨rfl,(Zb _ _).alloc (Za _) _⟩
  .have b:decide ((d:Int)<32)=false:=Zt (by omega);rw[Zt h];clear h;go_enter func241,ntmps241;go_wp2;go_ret;exact⟨rfl,(Zb _ _).alloc (Za _) _⟩
 |false=>
  rw[Zj (by simp)];clear h1 h2;by_cases h:tx.size=32
  .have b:((tx.size:Int)==32)=true:=by simp;omega
   rw[Z5 h];clear h;go_enter func241,ntmps241;go_wp2;go_ret;exact⟨rfl,(Zb _ _).alloc (Za _) _⟩
  .have b:((tx.size:Int)==32)=false:=by simp;omega
   rw[Zt h];clear h;go_enter func241,ntmps241;go_wp2;go_ret;exact⟨rfl,(Zb _ _).alloc (Za _) _⟩
theorem MK(u:Da)(w:Fa):Calls oa 154 #[La u] w λe w'=>e=na (Oa (decide (0<u.size)&&decide (u.size<=100)))/\w'=w:=by
 by_cases a:0<u.size
 .have d:=lj u a;rw[Z5 a];by_cases b:u.size<=100
  .have c:(u.size:Int)<=100:=by omega
   rw[Z5 b];clear a b;go_enter func154,ntmps154;go_wp2;go_ret;exact⟨rfl,rfl⟩
  .have c:(100:Int)<(u.size:Int):=by omega
   have f:=Zt b;rw[Zt b];clear a b;go_enter func154,ntmps154;go_wp2;go_ret;refine⟨?_,rfl⟩;show Ending.returned (Oa (decide ((u.size:Int)<=100)))=_;rw[Zt (by omega)];rfl
 .have d:=kw u (by omega);rw[Zt a];clear a;go_enter func154,ntmps154;go_wp2;go_ret;exact⟨rfl,rfl⟩
theorem Cy(fr en:Nat)(l:Bool)(tx:Da)(p:Option Addr)(m c:Nat)(sent:Nat->Addr)(w:Fa)(hF:Qb w sent):Calls oa 222 #[Sa #[Ia ka (fr:Int),Ia ka (en:Int),Oa l,La tx,Ma p m c]] w λe w'=>e=na ((Er.place fr (.base 8)).val sent)/\Ba w w':=by have a:=(hF.below ((Zb w.heap.size w).alloc (Za _) (ma #[Ia ka (fr:Int),Ia ka (en:Int),Oa l,La tx,Ma p m c] 204))).var 8 (by decide);rw[show Ri 8=6 from rfl]at a;clear hF;go_enter func222,ntmps222;go_wp2;go_ret;exact⟨rfl,(Zb _ _).alloc (Za _) _⟩
theorem TG(l:List Nat)(hl:l.length=32)(hb:∀x∈l,x<256)(w:Fa):Calls oa 142 #[Sa (l.map Kf).toArray] w λe w'=>∃b,e=na (Qa (some ⟨b,0,none⟩))/\w.heap.size<=b/\Ba w w'/\w'.heap[b]? =some (ma [La (Kg (Kh l))].toArray 298 (0,0)):=by
 have d:=Hq (λW=>DE l hl hb W);obtain⟨A,g⟩:=nm ((l.map Kf).toArray);have i:(w.alloc (ma A 39)).rangeAt w.heap.size 0 (l.map Kf):=λj v k=>by rw[Zf,Ze,<-g];simpa using k
 have m:(oa.info? 39).map (·.size)=some (l.map Kf).length:=by rw[Zl,hl];kernel_rfl
 obtain⟨R,h⟩:=nm (Kg (Kh l));rw[h]at d⊢;rw[g]at d⊢;clear hl hb;go_enter func142,ntmps142;go_wp2_with (first| (refine Zr rfl 39 _ rfl w.heap.size 0 rfl (l.map Kf) _ i underlying39 rfl m ?_)| (go_at_call 183;refine(d _).mono ?_;rintro e f ⟨rfl,a⟩;have c:Hid (Ba w f):=Below.up a;clear a))
 go_ret;refine⟨_,rfl,c.size,c.alloc c.size _,?_⟩;show(f.heap.push _)[f.heap.size]? =some _;exact Z6
end Go.Proofs.YtpfbdlnibdfcoaaGreatDoor
