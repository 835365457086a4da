import Derived.Test.YtpfbdlnibdfcoaaGreatDoorPvBarG
namespace Go.Proofs.YtpfbdlnibdfcoaaGreatDoor
open Go.RowKit Tryz
open Value renaming int->Ia,string->La,slice->Ma,bool->Oa,pointer->Qa,agg->Sa,tuple->Wa,iface->ca,nilIface->da
open IntKind renaming i64->ka
open Obj renaming cells->ma
open Ending renaming returned->na
open Tryz renaming prog->oa
set_option maxRecDepth 100000
set_option maxHeartbeats 0
theorem GJ{w w':Fa}{o:Obj}{b:Option Nat}(h:(w.alloc o).grownBy w' b):w.grownBy w' b:=⟨h.os,h.tape,h.output,by have :=h.size;simp at this;omega,λk hk hne=>(h.block k (by simp;omega) hne).trans (Z0 _ _ _ hk)⟩
theorem cA(t:List Nat):0<(Ks t).length:=by unfold Ks;have :=yH 192 t.length;rw[Zq];omega
end Go.Proofs.YtpfbdlnibdfcoaaGreatDoor
