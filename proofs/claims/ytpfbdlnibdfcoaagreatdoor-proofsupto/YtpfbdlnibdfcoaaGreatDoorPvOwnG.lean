import Derived.Test.YtpfbdlnibdfcoaaGreatDoorPvChiG
namespace Go.Proofs.YtpfbdlnibdfcoaaGreatDoor
open Go.RowKit Tryz
open Value renaming int->Ia,string->La,slice->Ma,bool->Oa,pointer->Qa,agg->Sa,tuple->Wa,iface->ca,nilIface->da
open IntKind renaming i64->ka
open Obj renaming cells->ma
open Ending renaming returned->na
open Tryz renaming prog->oa
set_option maxRecDepth 100000
set_option maxHeartbeats 0
def Own(w:Fa)(B:Nat)(v:Value)(l:List Nat):Prop:=(v=Ma none 0 0/\l=[])\/∃g cap,v=Ma (some ⟨g,0,none⟩) l.length cap/\B<=g/\g<w.heap.size/\l.length<=cap/\cap<=maxLen/\w.there g 0 cap/\∀j,j<l.length->w.cell? ⟨g,j,none⟩=some (Kf l[j]!)
theorem Own.nil(w:Fa)(B:Nat):Own w B (Ma none 0 0) []:=.inl ⟨rfl,rfl⟩
variable{w w':Fa}{B:Nat}{v:Value}{l:List Nat}
theorem Own.Cb(h:Own w B v l)(hs:w.heap.size<=w'.heap.size)(hb:∀k,k<w.heap.size->v.ownBlock=some k->w'.heap[k]? =w.heap[k]?):Own w' B v l:=by
 rcases h with h|⟨g,cap,rfl,h1,h2,h3,h4,h5,h6⟩;.exact .inl h
 .have e:=hb g h2 rfl;exact .inr ⟨g,cap,rfl,h1,by omega,h3,h4,λj a=>⟨by rw[Zc e];exact(h5 j a).1,(Yd e).trans (h5 j a).2⟩,λj a=>(Zc e).trans (h6 j a)⟩
theorem Own.alloc{w:Fa}{B:Nat}{v:Value}{l:List Nat}(h:Own w B v l)(o:Obj):Own (w.alloc o) B v l:=h.Cb (by simp) λk hk _=>Z0 w o k hk
theorem Own.drew{w:Fa}{B:Nat}{v:Value}{l:List Nat}(h:Own w B v l):Own w.drew B v l:=h
theorem Own.below(h:Own w B v l)(hb:Ba w w'):Own w' B v l:=h.Cb hb.size λk hk _=>hb.block k hk
theorem Own.mono{B':Nat}(h:Own w B v l)(hb:B'<=B):Own w B' v l:=by
 rcases h with h|⟨g,cap,rfl,h1,h2⟩;.exact .inl h
 .exact .inr ⟨g,cap,rfl,by omega,h2⟩
theorem Own.block(h:Own w B v l):∀k,v.ownBlock=some k->B<=k/\k<w.heap.size:=by
 intro k a;rcases h with⟨rfl,_⟩|⟨g,cap,rfl,h1,h2,_⟩;.simp[Value.ownBlock]at a
 .simp[Value.ownBlock]at a;subst a;exact⟨h1,h2⟩
theorem Own.grown{W:Fa}(h:Own w B v l)(hg:w.grownBy w' v.ownBlock)(h0:Below B W w)(hB:B<=w.heap.size):Below B W w':=h0.trans ⟨hg.os,hg.tape,hg.output,hg.size,λk hk=>hg.block k (by omega) (λe=>by have :=h.block k e.symm;omega)⟩
theorem enc_getElem?(l:List Nat)(j:Nat)(u:Value):(l.map Kf)[j]? =some u↔j<l.length/\u=Kf l[j]! :=by
 rw[Yt];by_cases a:j<l.length;.simp only[Zk a,Vp,Xj,a,true_and,Z9 l j a];exact eq_comm
 .simp[a]
variable{e:TypeId}
theorem Own.Ig(h:w.ownsRow B e 1 v l.length (l.map Kf)):Own w B v l:=by
 rcases h.2 with⟨hv,hn⟩|⟨g,cap,cur,rfl,hb,hg,hnc,hcm,No,htake⟩;.exact .inl ⟨hv,Ye hn⟩
 .refine .inr ⟨g,cap,rfl,hb,(Zg.1 hg).1,hnc,hcm,λj b=>⟨?_,Kd w g _ cur e hg⟩,λj b=>?_⟩
  .rw[Ju w g _ cur e (0,0) hg,Zf];have :j<cur.size:=by omega
   simp[this]
  .rw[Ju w g _ cur e (0,0) hg];have a:(cur.toList.take (l.length*1))[j]? =(l.map Kf)[j]? :=by rw[htake]
   rw[Xp (by omega),(enc_getElem? l j _).2 ⟨b,rfl⟩]at a;simpa using a
theorem Mo(l:List Nat):∀u∈l.map Kf,u.oneCell'=true:=by intro u a;obtain⟨x,_,rfl⟩:=Xd.1 a;rfl
variable{P:Program}
theorem iB(w:Fa)(t ty e:TypeId)(i:TypeInfo)(ht:P.underlying t=some (.slice e))(hi:P.info? e=some i)(hz:i.zero=some (Ia .u8 0))(hsize:i.size=1)(hby:i.bytes=1)(B:Nat)(v:Value)(l:List Nat)(hown:Own w B v l)(b o:Nat)(c:Nat)(news:List Nat)(hnews:∀j,j<news.length->w.cell? ⟨b,o+j,none⟩=some (Kf news[j]!))(hb:l.length+news.length<=140737488355328)(hB:B<=w.heap.size):∃v' w',(Builtin.append_ #[t,t] ty #[v,Ma (some ⟨b,o,none⟩) news.length c]).run P w=.ok v' w'/\Own w' B v' (l++news)/\w.grownBy w' v.ownBlock:=by
 have q:∀j u,(news.map Kf)[j]? =some u->w.cell? ((⟨b,o,none⟩:Addr).add j)=some u:=by intro j u s;obtain⟨n,rfl⟩:=(enc_getElem? news j u).1 s;rw[X7];exact hnews j n
 have x:l.length+news.length<=maxLen:=by unfold maxLen;omega
 rcases hown with⟨rfl,rfl⟩|⟨g,cap,rfl,n,h2,h3,h4,h5,h6⟩;.obtain⟨v',w',h,r,a,_⟩:=run_append_own (P:=P) w B t ty e i (Ia .u8 0) 1 1 ht hi hz hsize hby rfl (by decide) (Ma none 0 0) 0 [] (World.ownsRow_nil _ _ _ _) ⟨b,o,none⟩ news.length c (news.map Kf) (by simp) q (Mo _) (by simpa using x) (by simpa using hb) hB;refine⟨v',w',h,Own.Ig (e:=e) ?_,a⟩;simpa using r
 .by_cases f:l.length+news.length<=cap
  .have h:=run_append_room_cells (P:=P) w t ty e i ht hi g 0 l.length cap ⟨b,o,none⟩ news.length c (news.map Kf) (by simp[hsize]) q (Mo _) f
    (λj m=>by
     have :=(h5 (l.length+j) (by simp at m;omega)).1
     rw[Zf]at this
     simpa[hsize]using this)
    (λj m=>by
     have :=(h5 (l.length+j) (by simp at m;omega)).2
     rw[Zf]at this
     simpa[hsize]using this)
   rw[hsize,Nat.mul_one,Zf]at h;obtain⟨C,E,F,G⟩:=Og g (news.map Kf) l.length w;refine⟨_,_,h,.inr ⟨g,cap,by simp,n,by rw[C];exact h2,by simpa using f,h4,Xb h5 _ _ _,λj m=>?_⟩,⟨E,F,G,by rw[C];exact Za _,λk _ y=>Qf _ _ _ _ _ (λe=>y (by simp[Value.ownBlock,e]))⟩⟩;rw[Zq]at m;by_cases d:j<l.length;.rw[Va _ _ _ _ _ (λ_ _=>.inl d),h6 j d];simp[getElem!_def,Yl d]
   .have A:w.there g l.length (news.map Kf).length:=λk p=>by have :=h5 (l.length+k) (by simp at p;omega);rw[Zf]at this;exact this
    have :=Zn w g l.length (news.map Kf) A (j-l.length) (Kf news[j-l.length]!) ((enc_getElem? _ _ _).2 ⟨by omega,rfl⟩);rw[show l.length+(j-l.length)=j by omega]at this;rw[this];simp[getElem!_def,Z4 (Xn d)]
  .obtain⟨v',w',h,r,a⟩:=run_append_arg_grows (P:=P) w t ty e i (Ia .u8 0) 1 1 ht hi hz hsize hby rfl (by decide) ⟨g,0,none⟩ l.length cap (l.map Kf) (by simp) (λj u s=>by obtain⟨D,rfl⟩:=(enc_getElem? l j u).1 s;rw[X7,Zf];exact h6 j D) ⟨b,o,none⟩ news.length c (news.map Kf) (by simp) q (by omega) x (by simpa using hb);refine⟨v',w',h,?_,⟨a.os,a.tape,a.output,a.size,λk p _=>a.block k p (by simp)⟩⟩;have z:w'.ownsRow w.heap.size e 1 v' (l++news).length ((l++news).map Kf):=by simpa using r
   exact(Own.Ig z).mono hB
variable{o:Oper}
theorem kH{P:Program}(w:Fa){ops:Array Oper}{rest:List Oper}{a:Act}{Q:Exit->Act->Fa->Prop}(hgd:o.guard=none)(s x:Operand)(t:TypeId)(ho:o.op=.call {callee:=.builtin .append,args:=#[s,x],argTypes:=#[t,t]})
  (e:TypeId) (i:TypeInfo) (ht:P.underlying t=some (.slice e)) (hi:P.info? e=some i) (hz:i.zero=some (Ia .u8 0)) (hsize:i.size=1) (hby:i.bytes=1)
  (B:Nat) (v:Value) (l:List Nat) (hs:a.eval s=v) (hown:Own w B v l) (b p c:Nat) (news:List Nat) (hx:a.eval x=Ma (some ⟨b,p,none⟩) news.length c)
  (hnews:∀j,j<news.length->w.cell? ⟨b,p+j,none⟩=some (Kf news[j]!)) (hb:l.length+news.length<=140737488355328) (hB:B<=w.heap.size)
  (hK:∀v' w',Own w' B v' (l++news)->w.grownBy w' v.ownBlock->wpList P ops Q rest (a.put o.dst v') w'):wpList P ops Q (o::rest) a w:=by
 refine wpList_plain hgd λK f=>?_
 obtain⟨v',w',d,g,h⟩:=iB (P:=P) w t o.type e i ht hi hz hsize hby B v l hown b p c news hnews hb hB
 unfold Oper.wp
 simp[execOp,ho,resolve,invoke,builtin,hs,hx,d,Result.andThen]
 exact f _ _ (hK v' w' g h)
theorem ta(s:Da):(Ke s).length=s.size:=by simp[Ke]
theorem MU(s:Da)(j:Nat)(hj:j<s.size):(Ke s)[j]! =(s.data.toList.getD j 0).toNat:=by
 have h:j<s.data.toList.length:=by simpa using hj
 unfold Ke;rw[Z9 _ j (by simpa using hj)];simp[List.getD,hj]
theorem Own.ofString(w:Fa)(e:TypeId)(s:Da)(hs:s.size<=maxLen):Own (Lib.bytesWorld w e s) w.heap.size (Ma (some ⟨w.heap.size,0,none⟩) s.size (grownCap w s.size 0 e)) (Ke s):=by
 have b:=grownCap_ge w s.size 0 e;have No:(Lib.bytesCells w e s).size=grownCap w s.size 0 e:=by simp[Lib.bytesCells];omega
 refine .inr ⟨w.heap.size,_,by rw[ta],Za _,by rw[Lib.bytesWorld_size];omega,by rw[ta];exact b,grownCap_le_maxLen w s.size 0 e hs,λj a=>⟨?_,?_⟩,λj a=>?_⟩
 .rw[World.cell?,Lib.bytesWorld_at_new,Zf];have :j<(Lib.bytesCells w e s).size:=by omega
  simp[this]
 .rw[World.frozen?,Lib.bytesWorld_at_new,Zf];have :¬(Lib.bytesCells w e s).size<=j:=by omega
  simp[this]
 .rw[ta]at a;rw[Lib.bytesWorld_cell w e s j a,MU s j a]
theorem OM(w:Fa)(e:TypeId)(s:Da):Ba w (Lib.bytesWorld w e s):=⟨rfl,rfl,rfl,by rw[Lib.bytesWorld_size];omega,λk hk=>Lib.bytesWorld_at_old w e s k hk⟩
theorem Own.full(h:Own w B v l)(hl:0<l.length):∃g cap,v=Ma (some ⟨g,0,none⟩) l.length cap/\B<=g/\g<w.heap.size/\l.length<=cap/\cap<=maxLen/\w.there g 0 cap/\∀j,j<l.length->w.cell? ⟨g,j,none⟩=some (Kf l[j]!):=by
 rcases h with⟨_,rfl⟩|h;.simp at hl
 .exact h
structure Dc(w w':Fa)(B:Nat)(v v':Value)(l':List Nat):Prop where
 own:Own w' B v' l'
 grown:w.grownBy w' v.ownBlock
 fresh:∀k,v'.ownBlock=some k->v.ownBlock=some k\/w.heap.size<=k
theorem Dc.refl(h:Own w B v l):Dc w w B v v l:=⟨h,⟨rfl,rfl,rfl,Za _,λ_ _ _=>rfl⟩,λ_ hk=>.inl hk⟩
theorem Dc.trans{w w1 w2:Fa}{B:Nat}{v v1 v2:Value}{l1 l2:List Nat}(h:Dc w w1 B v v1 l1)(k:Dc w1 w2 B v1 v2 l2):Dc w w2 B v v2 l2:=by
 have c:=h.grown.size;refine⟨k.own,⟨k.grown.os.trans h.grown.os,k.grown.tape.trans h.grown.tape,k.grown.output.trans h.grown.output,Z2 c k.grown.size,λi b a=>?_⟩,λi b=>?_⟩
 .refine(k.grown.block i (by omega) (λe=>?_)).trans (h.grown.block i b a);rcases h.fresh i e.symm with e'|e';.exact a e'.symm
  .omega
 .rcases k.fresh i b with e|e;.exact h.fresh i e
  .exact .inr (by omega)
variable{l':List Nat}
theorem Dc.after{w1 w2:Fa}{v':Value}(hb:Ba w w1)(k:Dc w1 w2 B v v' l'):Dc w w2 B v v' l':=by
 have c:=hb.size;refine⟨k.own,⟨k.grown.os.trans hb.os,k.grown.tape.trans hb.tape,k.grown.output.trans hb.output,Z2 c k.grown.size,λi a b=>(k.grown.block i (by omega) b).trans (hb.block i a)⟩,λi a=>?_⟩;rcases k.fresh i a with e|e;.exact .inl e
 .exact .inr (by omega)
theorem Dc.below{W:Fa}{v':Value}(k:Dc w w' B v v' l')(ho:Own w B v l)(h0:Below B W w)(hB:B<=w.heap.size):Below B W w':=ho.grown k.grown h0 hB
theorem QD(w:Fa)(t ty e:TypeId)(i:TypeInfo)(ht:P.underlying t=some (.slice e))(hi:P.info? e=some i)(hz:i.zero=some (Ia .u8 0))(hsize:i.size=1)(hby:i.bytes=1)(B:Nat)(v:Value)(l:List Nat)(hown:Own w B v l)(b o:Nat)(c:Nat)(news:List Nat)(hnews:∀j,j<news.length->w.cell? ⟨b,o+j,none⟩=some (Kf news[j]!))(hb:l.length+news.length<=140737488355328)(hB:B<=w.heap.size):∃v' w',(Builtin.append_ #[t,t] ty #[v,Ma (some ⟨b,o,none⟩) news.length c]).run P w=.ok v' w'/\Dc w w' B v v' (l++news):=by
 obtain⟨v',w',n,x,s⟩:=iB (P:=P) w t ty e i ht hi hz hsize hby B v l hown b o c news hnews hb hB;refine⟨v',w',n,x,s,?_⟩;rcases hown with⟨rfl,rfl⟩|⟨g,cap,rfl,h1,h2,h3,h4,h5,h6⟩;.obtain⟨y,z,a,d,_⟩:=iB (P:=P) w t ty e i ht hi hz hsize hby w.heap.size (Ma none 0 0) [] (Own.nil _ _) b o c news hnews hb (Za _);rw[n]at a;cases a;exact λk m=>.inr (d.block k m).1
 .intro k m;by_cases p:l.length+news.length<=cap
  .have r:∀j u,(news.map Kf)[j]? =some u->w.cell? ((⟨b,o,none⟩:Addr).add j)=some u:=by intro j u f;obtain⟨h,rfl⟩:=(enc_getElem? news j u).1 f;rw[X7];exact hnews j h
   have a:=run_append_room_cells (P:=P) w t ty e i ht hi g 0 l.length cap ⟨b,o,none⟩ news.length c (news.map Kf) (by simp[hsize]) r (Mo _) p
    (λj q=>by
     have :=(h5 (l.length+j) (by simp at q;omega)).1
     rw[Zf]at this
     simpa[hsize]using this)
    (λj q=>by
     have :=(h5 (l.length+j) (by simp at q;omega)).2
     rw[Zf]at this
     simpa[hsize]using this)
   rw[n]at a;cases a;exact .inl m
  .have r:∀j u,(news.map Kf)[j]? =some u->w.cell? ((⟨b,o,none⟩:Addr).add j)=some u:=by intro j u f;obtain⟨h,rfl⟩:=(enc_getElem? news j u).1 f;rw[X7];exact hnews j h
   obtain⟨y,z,a,d,_⟩:=run_append_arg_grows (P:=P) w t ty e i (Ia .u8 0) 1 1 ht hi hz hsize hby rfl (by decide) ⟨g,0,none⟩ l.length cap (l.map Kf) (by simp) (λj u f=>by obtain⟨h,rfl⟩:=(enc_getElem? l j u).1 f;rw[X7,Zf];exact h6 j h) ⟨b,o,none⟩ news.length c (news.map Kf) (by simp) r (by omega) (by unfold maxLen;omega) (by simpa using hb);rw[n]at a;cases a;exact .inr (d.lt k m).1
theorem YA(s:Da):Lib.strCells s=(Ke s).map Kf:=by unfold Lib.strCells Ke;rw[Xx];rfl
theorem ZN(w:Fa)(t u ty e:TypeId)(i:TypeInfo)(ht:P.underlying t=some (.slice e))(hu:P.underlying u=some .string)(hi:P.info? e=some i)(hs1:i.size=1)(b sLen sCap:Nat)(s:Da)(hroom:sLen+s.size<=sCap)(hc:w.there b sLen s.size):(Builtin.append_ #[t,u] ty #[Ma (some ⟨b,0,none⟩) sLen sCap,La s]).run P w=.ok (Ma (some ⟨b,0,none⟩) (sLen+s.size) sCap) (w.setCells b sLen (Lib.strCells s)):=by have f:=Lib.run_firstCells_string (P:=P) w 1 s;have d:=Lib.strCells_length s;have c:=run_storeCells_cells (P:=P) b sLen (Lib.strCells s) 0 w (λj a=>by rw[d]at a;simpa using(hc j a).1) (λj a=>by rw[d]at a;simpa using(hc j a).2) (Lib.strCells_oneCell s);simp only[V0]at c;simp[Builtin.append_,run_underlying ht,run_underlying hu,sizeOf,typeInfo,hi,hs1,Builtin.lenOf,hroom,f,Addr.add_lit,c]
theorem oJ(w:Fa)(t u ty e:TypeId)(i:TypeInfo)(ht:P.underlying t=some (.slice e))(hu:P.underlying u=some .string)(hi:P.info? e=some i)(hz:i.zero=some (Ia .u8 0))(hsize:i.size=1)(hby:i.bytes=1)(B:Nat)(v:Value)(l:List Nat)(hown:Own w B v l)(s:Da)(hb:l.length+s.size<=140737488355328)(hB:B<=w.heap.size):∃v' w',(Builtin.append_ #[t,u] ty #[v,La s]).run P w=.ok v' w'/\Dc w w' B v v' (l++Ke s):=by
 have a:(l++Ke s).length=l.length+s.size:=by rw[Zq,ta]
 have o:l.length+s.size<=maxLen:=by unfold maxLen;omega
 rcases hown with⟨rfl,rfl⟩|⟨g,cap,rfl,h1,h2,h3,h4,h5,h6⟩;.obtain⟨v',w',f,y,A,_⟩:=Lib.run_append_own_string (P:=P) w w.heap.size t u ty e i ht hu hi hz hsize hby (Ma none 0 0) 0 [] (World.ownsRow_nil _ _ _ _) s (by simpa using o) (by simpa using hb) (Za _);rw[YA]at y;have m:=Own.Ig (e:=e) (by rw[ta];simpa using y);exact⟨v',w',f,⟨by simpa using m.mono hB,A,λk b=>.inr (m.block k b).1⟩⟩
 .by_cases d:l.length+s.size<=cap
  .have n:w.there g l.length s.size:=λj r=>by have :=h5 (l.length+j) (by omega);rw[Zf]at this;exact this
   have f:=ZN (P:=P) w t u ty e i ht hu hi hsize g l.length cap s d n;obtain⟨z,D,E,F⟩:=Og g (Lib.strCells s) l.length w;refine⟨_,_,f,⟨.inr ⟨g,cap,by rw[a],h1,by rw[z];exact h2,by rw[a];exact d,h4,Xb h5 _ _ _,λj r=>?_⟩,⟨D,E,F,by rw[z];exact Za _,λk _ x=>Qf _ _ _ _ _ (λe=>x (by simp[Value.ownBlock,e]))⟩,λk b=>.inl b⟩⟩;rw[a]at r;by_cases c:j<l.length;.rw[Va _ _ _ _ _ (λ_ _=>.inl c),h6 j c];simp[getElem!_def,Yl c]
   .have :=Zn w g l.length (Lib.strCells s) (by rw[Lib.strCells_length];exact n) (j-l.length) (Kf (Ke s)[j-l.length]!) (by rw[YA];exact(enc_getElem? _ _ _).2 ⟨by rw[ta];omega,rfl⟩);rw[show l.length+(j-l.length)=j by omega]at this;rw[this];simp[getElem!_def,Z4 (Xn c)]
  .have f:=Lib.run_append_grow_string (P:=P) w t u ty e i (Ia .u8 0) ht hu hi hz ⟨g,0,none⟩ l.length cap (l.map Kf) (by simp[hsize]) (λj u hu=>by obtain⟨C,rfl⟩:=(enc_getElem? l j u).1 hu;rw[X7,Zf];exact h6 j C) s (by omega) (by unfold maxLen at o;omega) (by rw[hby];exact growslice_fits (by omega) (by simpa using hb));have q:=grownCap_ge w (l.length+s.size) cap e;have p:=grownCap_le_maxLen w (l.length+s.size) cap e o;have h:(w.drew.alloc (ma ((l.map Kf).toArray++(Lib.strCells s).toArray++Builtin.zeroCells (Value.int .u8 0).cells (grownCap w (l.length+s.size) cap e-(l.length+s.size))) e)).ownsRow w.heap.size e 1 (Ma (some ⟨w.heap.size,0,none⟩) (l.length+s.size) (grownCap w (l.length+s.size) cap e)) (l++Ke s).length ((l++Ke s).map Kf):=by
    refine⟨by simp,.inr ⟨w.heap.size,_,_,by rw[a],Za _,heap_alloc_new w.drew _,by rw[a];exact q,p,?_,?_⟩⟩;.simp only[Array.size_append,Ym,size_zeroCells,Zl,Lib.strCells_length];have :(Value.int .u8 0).cells.size=1:=rfl;rw[this];omega
    .rw[YA];simp only[Array.toList_append,Xk];rw[V9 (by simp)];apply Zz;simp
   refine⟨_,_,f,⟨(Own.Ig h).mono hB,⟨rfl,rfl,rfl,by simp,λk b _=>Z0 w.drew _ k b⟩,λk b=>.inr (h.lt k b).1⟩⟩
theorem Fq{P:Program}(w:Fa){ops:Array Oper}{rest:List Oper}{a:Act}{Q:Exit->Act->Fa->Prop}(hgd:o.guard=none)(s x:Operand)(t:TypeId)(ho:o.op=.call {callee:=.builtin .append,args:=#[s,x],argTypes:=#[t,t]})
  (e:TypeId) (i:TypeInfo) (ht:P.underlying t=some (.slice e)) (hi:P.info? e=some i) (hz:i.zero=some (Ia .u8 0)) (hsize:i.size=1) (hby:i.bytes=1)
  (B:Nat) (v:Value) (l:List Nat) (hs:a.eval s=v) (hown:Own w B v l) (b p c:Nat) (news:List Nat) (hx:a.eval x=Ma (some ⟨b,p,none⟩) news.length c)
  (hnews:∀j,j<news.length->w.cell? ⟨b,p+j,none⟩=some (Kf news[j]!)) (hb:l.length+news.length<=140737488355328) (hB:B<=w.heap.size)
  (hK:∀v' w',Dc w w' B v v' (l++news)->wpList P ops Q rest (a.put o.dst v') w'):wpList P ops Q (o::rest) a w:=by
 refine wpList_plain hgd λK f=>?_
 obtain⟨v',w',d,g⟩:=QD (P:=P) w t o.type e i ht hi hz hsize hby B v l hown b p c news hnews hb hB
 unfold Oper.wp
 simp[execOp,ho,resolve,invoke,builtin,hs,hx,d,Result.andThen]
 exact f _ _ (hK v' w' g)
theorem zs{P:Program}(w:Fa){ops:Array Oper}{rest:List Oper}{a:Act}{Q:Exit->Act->Fa->Prop}(hgd:o.guard=none)(s x:Operand)(t u:TypeId)(ho:o.op=.call {callee:=.builtin .append,args:=#[s,x],argTypes:=#[t,u]})
  (e:TypeId) (i:TypeInfo) (ht:P.underlying t=some (.slice e)) (hu:P.underlying u=some .string) (hi:P.info? e=some i) (hz:i.zero=some (Ia .u8 0)) (hsize:i.size=1) (hby:i.bytes=1)
  (B:Nat) (v:Value) (l:List Nat) (hs:a.eval s=v) (hown:Own w B v l) (z:Da) (hx:a.eval x=La z) (hb:l.length+z.size<=140737488355328) (hB:B<=w.heap.size)
  (hK:∀v' w',Dc w w' B v v' (l++Ke z)->wpList P ops Q rest (a.put o.dst v') w'):wpList P ops Q (o::rest) a w:=by
 refine wpList_plain hgd λK c=>?_
 obtain⟨v',w',b,d⟩:=oJ (P:=P) w t u o.type e i ht hu hi hz hsize hby B v l hown z hb hB
 unfold Oper.wp
 simp[execOp,ho,resolve,invoke,builtin,hs,hx,b,Result.andThen]
 exact c _ _ (hK v' w' d)
theorem jJ{P:Program}(w:Fa){ops:Array Oper}{a:Act}{K:Act->Fa->Prop}{Q:Exit->Act->Fa->Prop}{E:Prop}(hgd:o.guard=none)(s x:Operand)(t:TypeId)(ho:o.op=.call {callee:=.builtin .append,args:=#[s,x],argTypes:=#[t,t]})
  (e:TypeId) (i:TypeInfo) (ht:P.underlying t=some (.slice e)) (hi:P.info? e=some i) (hz:i.zero=some (Ia .u8 0)) (hsize:i.size=1) (hby:i.bytes=1)
  (B:Nat) (v:Value) (l:List Nat) (hs:a.eval s=v) (hown:Own w B v l) (b p c:Nat) (news:List Nat) (hx:a.eval x=Ma (some ⟨b,p,none⟩) news.length c)
  (hnews:∀j,j<news.length->w.cell? ⟨b,p+j,none⟩=some (Kf news[j]!)) (hb:l.length+news.length<=140737488355328) (hB:B<=w.heap.size)
  (hK:∀v' w',Dc w w' B v v' (l++news)->K (a.put o.dst v') w'):
  if Region.wanted o (yielded ops a.tmps)=true then Oper.wp P o a w K Q else E:=by
 have f:Region.wanted o (yielded ops a.tmps)=true:=by simp[Region.wanted,hgd]
 rw[Zo f]
 obtain⟨v',w',d,g⟩:=QD (P:=P) w t o.type e i ht hi hz hsize hby B v l hown b p c news hnews hb hB
 unfold Oper.wp
 simp[execOp,ho,resolve,invoke,builtin,hs,hx,d,Result.andThen]
 exact hK v' w' g
theorem Own.Ff(w:Fa)(t:TypeId)(l:List Nat)(hl:l.length<=maxLen):Own (w.alloc (ma (l.map Kf).toArray t)) w.heap.size (Ma (some ⟨w.heap.size,0,none⟩) l.length l.length) l:=by
 have b:∀j,j<l.length->(w.alloc (ma (l.map Kf).toArray t)).cell? ⟨w.heap.size,j,none⟩=some (Kf l[j]!):=λj a=>by rw[Ze];have :=(enc_getElem? l j (Kf l[j]!)).2 ⟨a,rfl⟩;simpa using this
 exact .inr ⟨w.heap.size,l.length,rfl,Za _,by simp,Za _,hl,λj a=>⟨by rw[Zf,b j a];rfl,Xg _ _ _ _⟩,b⟩
def Db(w:Fa)(B size:Nat)(v:Value)(n:Nat)(cs:List Value):Prop:=cs.length=n*size/\((v=Ma none 0 0/\n=0)\/∃g cap,v=Ma (some ⟨g,0,none⟩) n cap/\B<=g/\g<w.heap.size/\n<=cap/\cap<=maxLen/\w.there g 0 (cap*size)/\w.rangeAt g 0 cs)
theorem Db.nil(w:Fa)(B size:Nat):Db w B size (Ma none 0 0) 0 []:=⟨by simp,.inl ⟨rfl,rfl⟩⟩
variable{size n:Nat}{cs:List Value}
theorem Db.Cb(h:Db w B size v n cs)(hs:w.heap.size<=w'.heap.size)(hb:∀k,k<w.heap.size->v.ownBlock=some k->w'.heap[k]? =w.heap[k]?):Db w' B size v n cs:=by
 refine⟨h.1,?_⟩;rcases h.2 with h|⟨g,cap,rfl,h1,h2,h3,h4,h5,h6⟩;.exact .inl h
 .have e:=hb g h2 rfl;exact .inr ⟨g,cap,rfl,h1,by omega,h3,h4,λj a=>⟨by rw[Zc e];exact(h5 j a).1,(Yd e).trans (h5 j a).2⟩,λj u b=>(Zc e).trans (h6 j u b)⟩
theorem Db.alloc{w:Fa}{B size:Nat}{v:Value}{n:Nat}{cs:List Value}(h:Db w B size v n cs)(o:Obj):Db (w.alloc o) B size v n cs:=h.Cb (by simp) λk hk _=>Z0 w o k hk
theorem Db.below(h:Db w B size v n cs)(hb:Ba w w'):Db w' B size v n cs:=h.Cb hb.size λk hk _=>hb.block k hk
theorem Db.mono{B':Nat}(h:Db w B size v n cs)(hb:B'<=B):Db w B' size v n cs:=by
 refine⟨h.1,?_⟩;rcases h.2 with h|⟨g,cap,rfl,h1,h2⟩;.exact .inl h
 .exact .inr ⟨g,cap,rfl,by omega,h2⟩
theorem Db.block(h:Db w B size v n cs):∀k,v.ownBlock=some k->B<=k/\k<w.heap.size:=by
 intro k a;rcases h.2 with⟨rfl,_⟩|⟨g,cap,rfl,h1,h2,_⟩;.simp[Value.ownBlock]at a
 .simp[Value.ownBlock]at a;subst a;exact⟨h1,h2⟩
theorem Db.full(h:Db w B size v n cs)(hn:0<n):∃g cap,v=Ma (some ⟨g,0,none⟩) n cap/\B<=g/\g<w.heap.size/\n<=cap/\cap<=maxLen/\w.there g 0 (cap*size)/\w.rangeAt g 0 cs:=by
 rcases h.2 with⟨_,h0⟩|h;.omega
 .exact h
theorem Db.Ig(h:w.ownsRow B e size v n cs):Db w B size v n cs:=by
 refine⟨h.1,?_⟩;rcases h.2 with hn|⟨g,cap,cur,rfl,hb,hg,hnc,hcm,No,htake⟩;.exact .inl hn
 .refine .inr ⟨g,cap,rfl,hb,(Zg.1 hg).1,hnc,hcm,λj b=>⟨?_,Kd w g _ cur e hg⟩,λj u a=>?_⟩
  .rw[Ju w g _ cur e (0,0) hg,Zf];have :j<cur.size:=by omega
   simp[this]
  .rw[Ju w g _ cur e (0,0) hg,Zf];rw[<-htake]at a;rw[List.getElem?_take]at a;split at a;.simpa using a
   .cases a
def Plain(w:Fa)(g:Nat):Prop:=∃cs t,w.heap[g]? =some (ma cs t (0,0))
theorem Plain.Cb{g:Nat}(h:Plain w g)(e:w'.heap[g]? =w.heap[g]?):Plain w' g:=by obtain⟨a,t,h⟩:=h;exact⟨a,t,e.trans h⟩
theorem Plain.setCell{w:Fa}{g:Nat}(h:Plain w g)(a:Addr)(u:Value):Plain (w.setCell a u) g:=by
 by_cases c:g=a.block;.subst c;obtain⟨b,t,h⟩:=h;refine⟨if a.spot.isSome=true then b else b.setIfInBounds a.off u,t,?_⟩;simp only[World.setCell,Array.getElem?_modify,if_true,h,Vp]
 .exact h.Cb (Zd w a u g c)
theorem Plain.setCells{g b:Nat}:∀(vs:List Value) (o:Nat) {w:Fa},Plain w g->Plain (w.setCells b o vs) g
 | [],_,_,h=>h
 |v::r,o,_,h=>by rw[World.setCells];exact Plain.setCells r (o+1) (h.setCell _ _)
theorem zw(h:w.ownsRow B e size v n cs):∀k,v.ownBlock=some k->Plain w k:=by
 intro k a;rcases h.2 with⟨rfl,_⟩|⟨g,cap,cur,rfl,hb,hg,_⟩;.simp[Value.ownBlock]at a
 .simp[Value.ownBlock]at a;subst a;exact⟨cur,e,hg⟩
theorem xF(w:Fa)(t ty e:TypeId)(i:TypeInfo)(z:Value)(size bytes:Nat)(ht:P.underlying t=some (.slice e))(hi:P.info? e=some i)(hz:i.zero=some z)(hsize:i.size=size)(hby:i.bytes=bytes)(hzs:z.cells.size=size)(hsz:0<size)(B:Nat)(v:Value)(n:Nat)(cs:List Value)(hown:Db w B size v n cs)(b o m c:Nat)(news:List Value)(hl:news.length=m*size)(hnews:w.rangeAt b o news)(h1:∀u∈news,u.oneCell'=true)(hm:n+m<=maxLen)(hb:(n+m)*bytes<=140737488355328)(hB:B<=w.heap.size):∃v' w',(Builtin.append_ #[t,t] ty #[v,Ma (some ⟨b,o,none⟩) m c]).run P w=.ok v' w'/\Db w' B size v' (n+m) (cs++news)/\w.grownBy w' v.ownBlock/\(∀k,v'.ownBlock=Option.some k->v.ownBlock=Option.some k\/w.heap.size<=k)/\((∀k,v.ownBlock=Option.some k->Plain w k)->∀k,v'.ownBlock=Option.some k->Plain w' k):=by
 have A:∀j u,news[j]? =some u->w.cell? ((⟨b,o,none⟩:Addr).add j)=some u:=by intro j u f;rw[X7];exact hnews j u f
 obtain⟨q,hown⟩:=hown;have y:(cs++news).length=(n+m)*size:=by rw[Zq,q,hl,Nat.add_mul]
 rcases hown with⟨rfl,rfl⟩|⟨g,cap,rfl,h2,h3,h4,h5,h6,h7⟩;.have No:=Ye (by simpa using q);subst No;obtain⟨v',w',p,l,h,_⟩:=run_append_own (P:=P) w w.heap.size t ty e i z size bytes ht hi hz hsize hby hzs hsz (Ma none 0 0) 0 [] (World.ownsRow_nil _ _ _ _) ⟨b,o,none⟩ m c news hl A h1 hm hb (Za _);exact⟨v',w',p,(Db.Ig (e:=e) l).mono hB,h,λk a=>.inr (l.lt k a).1,λ_=>zw l⟩
 .by_cases d:n+m<=cap
  .have I:n*size+m*size<=cap*size:=by rw[<-Nat.add_mul];exact Nat.mul_le_mul_right _ d
   have r:w.there g (n*size) news.length:=λk a=>by have :=h6 (n*size+k) (by omega);rw[Zf]at this;exact this
   have p:=run_append_room_cells (P:=P) w t ty e i ht hi g 0 n cap ⟨b,o,none⟩ m c news (by rw[hsize];exact hl) A h1 d (λj x=>by rw[hsize,Zf];exact(r j x).1) (λj x=>by rw[hsize,Zf];exact(r j x).2);rw[hsize,Zf]at p;obtain⟨D,F,G,H⟩:=Og g news (n*size) w;refine⟨_,_,p,⟨y,.inr ⟨g,cap,rfl,h2,by rw[D];exact h3,d,h5,Xb h6 _ _ _,λj u f=>?_⟩⟩,⟨F,G,H,by rw[D];exact Za _,λk _ C=>Qf _ _ _ _ _ (λe=>C (by simp[Value.ownBlock,e]))⟩,λk a=>.inl a,λE k a=>(E k a).setCells _ _⟩;by_cases s:j<cs.length;.rw[Yl s]at f;rw[Va _ _ _ _ _ (λ_ _=>.inl (show 0+j<n*size by omega))];exact h7 j u f
   .rw[Z4 (Xn s)]at f;have :=Zn w g (n*size) news r (j-cs.length) u f;rwa [show n*size+(j-cs.length)=0+j by omega]at this
  .obtain⟨v',w',p,l,h⟩:=run_append_arg_grows (P:=P) w t ty e i z size bytes ht hi hz hsize hby hzs hsz ⟨g,0,none⟩ n cap cs q (λj u f=>by rw[X7];exact h7 j u f) ⟨b,o,none⟩ m c news hl A (by omega) hm hb;exact⟨v',w',p,(Db.Ig l).mono hB,⟨h.os,h.tape,h.output,h.size,λk a _=>h.block k a (by simp)⟩,λk a=>.inr (l.lt k a).1,λ_=>zw l⟩
theorem ll{P:Program}(w:Fa){ops:Array Oper}{rest:List Oper}{a:Act}{Q:Exit->Act->Fa->Prop}(hgd:o.guard=none)(s x:Operand)(t:TypeId)(ho:o.op=.call {callee:=.builtin .append,args:=#[s,x],argTypes:=#[t,t]})
  (e:TypeId) (i:TypeInfo) (z:Value) (size bytes:Nat) (ht:P.underlying t=some (.slice e)) (hi:P.info? e=some i) (hz:i.zero=some z) (hsize:i.size=size) (hby:i.bytes=bytes) (hzs:z.cells.size=size) (hsz:0<size)
  (B:Nat) (v:Value) (n:Nat) (cs:List Value) (hs:a.eval s=v) (hown:Db w B size v n cs) (b p m c:Nat) (news:List Value) (hx:a.eval x=Ma (some ⟨b,p,none⟩) m c)
  (hl:news.length=m*size) (hnews:w.rangeAt b p news) (h1:∀u∈news,u.oneCell'=true) (hm:n+m<=maxLen) (hb:(n+m)*bytes<=140737488355328) (hB:B<=w.heap.size)
  (hK:∀v' w',Db w' B size v' (n+m) (cs++news)->w.grownBy w' v.ownBlock->(∀k,v'.ownBlock=Option.some k->v.ownBlock=Option.some k\/w.heap.size<=k)->((∀k,v.ownBlock=Option.some k->Plain w k)->∀k,v'.ownBlock=Option.some k->Plain w' k)->wpList P ops Q rest (a.put o.dst v') w'):wpList P ops Q (o::rest) a w:=by
 refine wpList_plain hgd λK f=>?_
 obtain⟨v',w',d,g,h,j,l⟩:=xF (P:=P) w t o.type e i z size bytes ht hi hz hsize hby hzs hsz B v n cs hown b p m c news hl hnews h1 hm hb hB
 unfold Oper.wp
 simp[execOp,ho,resolve,invoke,builtin,hs,hx,d,Result.andThen]
 exact f _ _ (hK v' w' g h j l)
theorem Db.set{w:Fa}{B size g cap:Nat}{n:Nat}{cs:List Value}(h:Db w B size (Ma (some ⟨g,0,none⟩) n cap) n cs)(j:Nat)(hj:j<cs.length)(u:Value):Db (w.setCell ⟨g,j,none⟩ u) B size (Ma (some ⟨g,0,none⟩) n cap) n (cs.set j u):=by
 obtain⟨c,h⟩:=h;refine⟨by simpa using c,?_⟩;rcases h with⟨h,_⟩|⟨g',cap',e,h2,h3,h4,h5,h6,h7⟩;.cases h
 .simp only[Z3,Xj,Addr.mk.injEq,and_true,true_and]at e;obtain⟨rfl,rfl⟩:=e;refine .inr ⟨g,cap,rfl,h2,by simpa using h3,h4,h5,Bq h6 _ _,λk x b=>?_⟩;rw[Zf];rw[List.getElem?_set]at b;split at b
  .rename_i e
   subst e;cases b;have a:=h7 j cs[j] (Zk hj);rw[Zf]at a;exact Ys _ _ _ a
  .rename_i hne
   have a:=h7 k x b;rw[Zf]at a;exact(Zp _ _ _ _ (λe=>by have d:=Y5 Addr.off e;simp only at d;omega)).trans a
end Go.Proofs.YtpfbdlnibdfcoaaGreatDoor
