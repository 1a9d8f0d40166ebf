import Derived.Test.YtchddaafibjmgaaGreatMA1
import Derived.Test.YtchddaafibjmgaaGreatProg
import Derived.Deep.WholeRow
set_option maxRecDepth 100000
set_option maxHeartbeats 20000000
namespace Go.Proofs.YtchddaafibjmgaaGreat
section
open Go.RowKit
theorem results_box {fn:Func} {q:Tmp} {ty:TypeId} (h:fn.results= #[.cell q ty]) {tmps:Array Value} {P:Program} {w:World} {ad:Addr} {v:Value} (ha:tmps.getD q undef= .pointer (some ad)) (hl:(loadVar ty ad).run P w= .ok v w):(results fn tmps).run P w= .ok v w:=by
  simp only [results,h]
  simp [asAddr,hl,ha,-Array.getD_eq_getD_getElem?]
theorem sizeAP:(Tryz.prog.info? 77).map (·.size)=some 10:=by kernel_rfl
theorem ten_cells {w:World} {b:Nat} {t:TypeId} {y0 y1 y2 y3 y4 y5 y6 y7 y8 y9:Value} (h:w.heap[b]? =some (.cells #[y0,y1,y2,y3,y4,y5,y6,y7,y8,y9] t (0,0))) (x0 x1 x2 x3 x4 x5 x6 x7 x8 x9:Value):
    ((((((((((w.setCell ⟨b,0,none⟩ x0).setCell ⟨b,1,none⟩ x1).setCell ⟨b,2,none⟩ x2).setCell ⟨b,3,none⟩ x3).setCell ⟨b,4,none⟩ x4).setCell ⟨b,5,none⟩ x5).setCell ⟨b,6,none⟩ x6).setCell ⟨b,7,none⟩ x7).setCell ⟨b,8,none⟩ x8).setCell ⟨b,9,none⟩ x9).heap[b]? =some (.cells #[x0,x1,x2,x3,x4,x5,x6,x7,x8,x9] t (0,0)):=by
  have h0:=qs h (i:=0) x0
  have h1:=qs h0 (i:=1) x1
  have h2:=qs h1 (i:=2) x2
  have h3:=qs h2 (i:=3) x3
  have h4:=qs h3 (i:=4) x4
  have h5:=qs h4 (i:=5) x5
  have h6:=qs h5 (i:=6) x6
  have h7:=qs h6 (i:=7) x7
  have h8:=qs h7 (i:=8) x8
  have h9:=qs h8 (i:=9) x9
  rw [h9]
  simp
end
end Go.Proofs.YtchddaafibjmgaaGreat
