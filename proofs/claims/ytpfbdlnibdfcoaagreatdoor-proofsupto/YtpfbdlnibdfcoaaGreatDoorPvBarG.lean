import Derived.Test.YtpfbdlnibdfcoaaGreatDoorPvIteG
namespace Go.Proofs.YtpfbdlnibdfcoaaGreatDoor
open Go.RowKit Tryz
open Value renaming int->Ia,string->La,slice->Ma,bool->Oa,pointer->Qa,agg->Sa,tuple->Wa,iface->ca,nilIface->da
open IntKind renaming i64->ka
open Obj renaming cells->ma
open Ending renaming returned->na
open Tryz renaming prog->oa
set_option maxRecDepth 100000
set_option maxHeartbeats 0
theorem kI{P:Program}(w:Fa){ops:Array Oper}{o:Oper}{a:Act}{K:Act->Fa->Prop}{Q:Exit->Act->Fa->Prop}{E:Prop}(hgd:o.guard=none)(s x:Operand)(t:TypeId)(ho:o.op=.call {callee:=.builtin .append,args:=#[s,x],argTypes:=#[t,t]})
  (e:TypeId) (i:TypeInfo) (z:Value) (size bytes:Nat) (ht:P.underlying t=some (.slice e)) (hi:P.info? e=some i) (hz:i.zero=some z) (hsize:i.size=size) (hby:i.bytes=bytes) (hzs:z.cells.size=size) (hsz:0<size)
  (B:Nat) (v:Value) (n:Nat) (cs:List Value) (hs:a.eval s=v) (hown:Db w B size v n cs) (b p m c:Nat) (news:List Value) (hx:a.eval x=Ma (some ⟨b,p,none⟩) m c)
  (hl:news.length=m*size) (hnews:w.rangeAt b p news) (h1:∀u∈news,u.oneCell'=true) (hm:n+m<=maxLen) (hb:(n+m)*bytes<=140737488355328) (hB:B<=w.heap.size)
  (hK:∀v' w',Db w' B size v' (n+m) (cs++news)->w.grownBy w' v.ownBlock->(∀k,v'.ownBlock=Option.some k->v.ownBlock=Option.some k\/w.heap.size<=k)->((∀k,v.ownBlock=Option.some k->Plain w k)->∀k,v'.ownBlock=Option.some k->Plain w' k)->K (a.put o.dst v') w'):
  if Region.wanted o (yielded ops a.tmps)=true then Oper.wp P o a w K Q else E:=by
 have f:Region.wanted o (yielded ops a.tmps)=true:=by simp[Region.wanted,hgd]
 rw[Zo f]
 obtain⟨v',w',d,g,h,j,l⟩:=xF (P:=P) w t o.type e i z size bytes ht hi hz hsize hby hzs hsz B v n cs hown b p m c news hl hnews h1 hm hb hB
 unfold Oper.wp
 simp[execOp,ho,resolve,invoke,builtin,hs,hx,d,Result.andThen]
 exact hK v' w' g h j l
theorem Tree.sub{C:Type}{enc:El->List Value}{K:E1 C}:∀{n:Nat} {w:Fa} {F:Nat->Prop} {e:El} {c:C},Tree enc K n w F e c->∃p m c',e.sub=Ma p m c':=by
 intro n w F e c h;cases n with
 |zero=>exact⟨_,_,_,h.1.2⟩
 |succ n=>
  rcases h with h|⟨_,ps,h,_⟩;.exact⟨_,_,_,h.1.2⟩
  .rcases h with⟨h,_⟩|⟨g,cap,h,_⟩<;>exact⟨_,_,_,h⟩
theorem yH(k n:Nat):0<(K4 k n).length:=by unfold K4;split<;>simp
theorem mw(t:List Nat):0<(Kh t).length/\t.length<=(Kh t).length:=by
 unfold Kh;split
 .rename_i h
  simp[h.1]
 .have :=yH 128 t.length;rw[Zq];omega
end Go.Proofs.YtpfbdlnibdfcoaaGreatDoor
