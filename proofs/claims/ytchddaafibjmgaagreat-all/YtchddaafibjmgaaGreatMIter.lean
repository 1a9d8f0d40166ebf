import Derived.Shelf.SlIter.Nil
import Derived.Shelf.SortM.Plain
import Derived.Shelf.SortM.SortNone
import Derived.Ground.GgzProg
import Derived.Ground.SlgmProg
import Derived.Test.YtchddaafibjmgaaGreatProg
set_option maxRecDepth 100000
set_option maxHeartbeats 20000000
namespace Go.Proofs
open Go.RowKit Go.Maps Go.Sort Go.Shelf
def Tryz.keys79_ren:Go.Shelf.Ren:=⟨fun| 7=>79| 10=>92| n=>n,fun| 23=>112| 26=>9| 3=>127| 28=>170| 0=>0| 27=>169| 33=>123| 4=>4| n=>n,fun| n=>n⟩
theorem Tryz.keys79:Go.Proofs.SlLaysZ.n7 Tryz.prog Tryz.keys79_ren:= {
  mixed:=by kernel_rfl
  f7:=⟨Tryz.f79.name,by decide,Tryz.func79.trans (congrArg some (by kernel_rfl))⟩
  f10:=⟨Tryz.f92.name,by decide,Tryz.func92.trans (congrArg some (by kernel_rfl))⟩
  t0:=Tryz.underlying0
  a0:=Tryz.isAgg0
  z0:=Tryz.sizeOf0
  v0:=Tryz.zeroValue0
  t4:=Tryz.underlying4
  a4:=Tryz.isAgg4
  z4:=Tryz.sizeOf4
  v4:=Tryz.zeroValue4
  t23:=Tryz.underlying112
  a23:=Tryz.isAgg112
  z23:=Tryz.sizeOf112
  v23:=Tryz.zeroValue112
  t26:=Tryz.underlying9
  a26:=Tryz.isAgg9
  z26:=Tryz.sizeOf9
  v26:=Tryz.zeroValue9
  t27:=Tryz.underlying169
  a27:=Tryz.isAgg169
  z27:=Tryz.sizeOf169
  v27:=Tryz.zeroValue169
  t28:=Tryz.underlying170
  a28:=Tryz.isAgg170
  z28:=Tryz.sizeOf170
  v28:=Tryz.zeroValue170
  t33:=Tryz.underlying123
  a33:=Tryz.isAgg123
  z33:=Tryz.sizeOf123
  v33:=Tryz.zeroValue123 }
def Tryz.sorted78_ren:Go.Shelf.Ren:=⟨fun| 6=>78| 8=>90| 9=>91| 11=>100| 13=>102| 12=>101| 23=>118| 24=>119| 14=>109| 15=>110| 16=>111| 17=>112| 18=>113| 19=>114| 20=>115| 21=>116| 22=>117| 25=>127| 26=>128| 27=>129| 28=>130| 29=>131| 30=>132| 31=>135| n=>n,fun| 26=>9| 28=>170| 24=>103| 0=>0| 3=>3| 37=>199| 48=>215| 50=>217| 4=>4| 40=>208| 39=>207| 45=>212| 5=>5| 9=>9| 51=>222| 55=>226| 57=>230| 58=>231| 33=>123| n=>n,fun| n=>n⟩
theorem Tryz.sorted78:Go.Proofs.SlLaysZ.n6 Tryz.prog Tryz.sorted78_ren:= {
  mixed:=by kernel_rfl
  f6:=⟨Tryz.f78.name,by decide,Tryz.func78.trans (congrArg some (by kernel_rfl))⟩
  f8:=⟨Tryz.f90.name,by decide,Tryz.func90.trans (congrArg some (by kernel_rfl))⟩
  f11:=⟨Tryz.f100.name,by decide,Tryz.func100.trans (congrArg some (by kernel_rfl))⟩
  t0:=Tryz.underlying0
  a0:=Tryz.isAgg0
  z0:=Tryz.sizeOf0
  v0:=Tryz.zeroValue0
  t24:=Tryz.underlying103
  a24:=Tryz.isAgg103
  z24:=Tryz.sizeOf103
  v24:=Tryz.zeroValue103
  t26:=Tryz.underlying9
  a26:=Tryz.isAgg9
  z26:=Tryz.sizeOf9
  v26:=Tryz.zeroValue9
  t28:=Tryz.underlying170
  a28:=Tryz.isAgg170
  z28:=Tryz.sizeOf170
  v28:=Tryz.zeroValue170
  i26:=by kernel_rfl }
def Tryz.sort91_ren:Go.Shelf.Ren:=⟨fun| 6=>91| 8=>102| 9=>101| 19=>118| 20=>119| 21=>109| 22=>110| 23=>111| 24=>112| 25=>113| 26=>114| 27=>115| 28=>116| 29=>117| 36=>127| 31=>128| 32=>129| 37=>130| 38=>131| 39=>132| 41=>135| n=>n,fun| 27=>103| 29=>9| 3=>3| 32=>199| 26=>103| 0=>0| 44=>215| 46=>217| 4=>4| 36=>208| 35=>207| 41=>212| 5=>5| 9=>9| 53=>222| 57=>226| 63=>230| 64=>231| n=>n,fun| n=>n⟩
theorem Tryz.sort91:Go.Proofs.SlLaysM.n6 Tryz.prog Tryz.sort91_ren:= {
  mixed:=by kernel_rfl
  f6:=⟨Tryz.f91.name,by decide,Tryz.func91.trans (congrArg some (by kernel_rfl))⟩
  f8:=Tryz.func102.trans (congrArg some (by kernel_rfl))
  f9:=⟨Tryz.f101.name,by decide,Tryz.func101.trans (congrArg some (by kernel_rfl))⟩
  f19:=Tryz.func118.trans (congrArg some (by kernel_rfl))
  f20:=Tryz.func119.trans (congrArg some (by kernel_rfl))
  f21:=⟨Tryz.f109.name,by decide,Tryz.func109.trans (congrArg some (by kernel_rfl))⟩
  f22:=⟨Tryz.f110.name,by decide,Tryz.func110.trans (congrArg some (by kernel_rfl))⟩
  f23:=⟨Tryz.f111.name,by decide,Tryz.func111.trans (congrArg some (by kernel_rfl))⟩
  f24:=⟨Tryz.f112.name,by decide,Tryz.func112.trans (congrArg some (by kernel_rfl))⟩
  f25:=⟨Tryz.f113.name,by decide,Tryz.func113.trans (congrArg some (by kernel_rfl))⟩
  f26:=⟨Tryz.f114.name,by decide,Tryz.func114.trans (congrArg some (by kernel_rfl))⟩
  f27:=⟨Tryz.f115.name,by decide,Tryz.func115.trans (congrArg some (by kernel_rfl))⟩
  f28:=⟨Tryz.f116.name,by decide,Tryz.func116.trans (congrArg some (by kernel_rfl))⟩
  f29:=⟨Tryz.f117.name,by decide,Tryz.func117.trans (congrArg some (by kernel_rfl))⟩
  f31:=Tryz.func128.trans (congrArg some (by kernel_rfl))
  f32:=Tryz.func129.trans (congrArg some (by kernel_rfl))
  f36:=⟨Tryz.f127.name,by decide,Tryz.func127.trans (congrArg some (by kernel_rfl))⟩
  f37:=⟨Tryz.f130.name,by decide,Tryz.func130.trans (congrArg some (by kernel_rfl))⟩
  f38:=⟨Tryz.f131.name,by decide,Tryz.func131.trans (congrArg some (by kernel_rfl))⟩
  f39:=⟨Tryz.f132.name,by decide,Tryz.func132.trans (congrArg some (by kernel_rfl))⟩
  f41:=⟨Tryz.f135.name,by decide,Tryz.func135.trans (congrArg some (by kernel_rfl))⟩
  t0:=Tryz.underlying0
  a0:=Tryz.isAgg0
  z0:=Tryz.sizeOf0
  v0:=Tryz.zeroValue0
  t3:=Tryz.underlying3
  a3:=Tryz.isAgg3
  z3:=Tryz.sizeOf3
  v3:=Tryz.zeroValue3
  t4:=Tryz.underlying4
  a4:=Tryz.isAgg4
  z4:=Tryz.sizeOf4
  v4:=Tryz.zeroValue4
  t5:=Tryz.underlying5
  a5:=Tryz.isAgg5
  z5:=Tryz.sizeOf5
  v5:=Tryz.zeroValue5
  t9:=Tryz.underlying9
  a9:=Tryz.isAgg9
  z9:=Tryz.sizeOf9
  v9:=Tryz.zeroValue9
  t26:=Tryz.underlying103
  a26:=Tryz.isAgg103
  z26:=Tryz.sizeOf103
  v26:=Tryz.zeroValue103
  t27:=Tryz.underlying103
  a27:=Tryz.isAgg103
  z27:=Tryz.sizeOf103
  v27:=Tryz.zeroValue103
  t29:=Tryz.underlying9
  a29:=Tryz.isAgg9
  z29:=Tryz.sizeOf9
  v29:=Tryz.zeroValue9
  t32:=Tryz.underlying199
  a32:=Tryz.isAgg199
  z32:=Tryz.sizeOf199
  v32:=Tryz.zeroValue199
  t35:=Tryz.underlying207
  a35:=Tryz.isAgg207
  z35:=Tryz.sizeOf207
  v35:=Tryz.zeroValue207
  t36:=Tryz.underlying208
  a36:=Tryz.isAgg208
  z36:=Tryz.sizeOf208
  v36:=Tryz.zeroValue208
  t41:=Tryz.underlying212
  a41:=Tryz.isAgg212
  z41:=Tryz.sizeOf212
  v41:=Tryz.zeroValue212
  t44:=Tryz.underlying215
  a44:=Tryz.isAgg215
  z44:=Tryz.sizeOf215
  v44:=Tryz.zeroValue215
  t46:=Tryz.underlying217
  a46:=Tryz.isAgg217
  z46:=Tryz.sizeOf217
  v46:=Tryz.zeroValue217
  t53:=Tryz.underlying222
  a53:=Tryz.isAgg222
  z53:=Tryz.sizeOf222
  v53:=Tryz.zeroValue222
  t57:=Tryz.underlying226
  a57:=Tryz.isAgg226
  z57:=Tryz.sizeOf226
  v57:=Tryz.zeroValue226
  t63:=Tryz.underlying230
  a63:=Tryz.isAgg230
  z63:=Tryz.sizeOf230
  v63:=Tryz.zeroValue230
  t64:=Tryz.underlying231
  a64:=Tryz.isAgg231
  z64:=Tryz.sizeOf231
  v64:=Tryz.zeroValue231 }
theorem Tryz.sorts78 (m:Nat):AnyZ.SortsIn Tryz.prog Tryz.sorted78_ren Fence.wide m:=
  ⟨fun blk off cap ss W hH hblk hsz=>callsIn_wide.2 (AnyM.slices_Sort_string Tryz.sort91 blk off cap ss W hH hblk hsz),
   fun p cap W=>callsIn_wide.2 (AnyM.slices_Sort_string_none Tryz.sort91 p cap W)⟩
theorem Tryz.maps_Keys_79 (mb:Option Nat) (W:World):CallsIn Fence.wide 5 Tryz.prog 79 #[.map mb] W fun e w'=>e= .returned (.func (.func 92) #[] #[.pointer (some ⟨W.heap.size,0,none⟩)])∧w'=W.alloc (.cells #[.map mb] 112):=
  AnyZ.keys_in Tryz.keys79 Fence.wide 5 trivial rfl mb W
theorem Tryz.slices_Sorted_keys_78_79 {H:Type} (b nn:Nat) (D0:DataW H) (R:Value→Option (DataW H×List MemPlace)) (w:World) (hown:w.ownsMap Tryz.prog 9 R b nn D0) (hmax:Maps.size D0≤maxLen) (hbytes:Maps.size D0 * 16≤140737488355328):
    CallsIn Fence.wide 5 Tryz.prog 78 #[.func (.func 92) #[] #[.pointer (some ⟨w.heap.size,0,none⟩)]] (w.alloc (.cells #[.map (some b)] 112)) fun e w'=> ∃ (v:Value) (ss:List (List UInt8)),e= .returned v∧ss.Perm (strKeys D0)∧
      w'.ownsRow (w.alloc (.cells #[.map (some b)] 112)).heap.size 9 1 v ss.length ((ss.mergeSort (fun x y=>decide (x≤y))).map encStr)∧(v= .slice none 0 0↔ss= [])∧Below (w.alloc (.cells #[.map (some b)] 112)).heap.size (w.alloc (.cells #[.map (some b)] 112)) w':=by
  have hbl:=hown.lt
  have hseq:SeqGives Fence.wide 2 Tryz.prog 92 #[.pointer (some ⟨w.heap.size,0,none⟩)] encStr (fun ss=>ss.Perm (strKeys D0)) (Maps.size D0) (w.alloc (.cells #[.map (some b)] 112)):=
    AnyZ.keys_gives (ρ:=Tryz.keys79_ren) { Tryz.keys79 with } Fence.wide _ trivial rfl (by omega) w.heap.size b nn D0 _ (by simp) (by simp) (by
      obtain ⟨es,clock,hb,Ft,hs,hD⟩:=hown
      exact ⟨es,clock,(Below.heap_alloc _ _ b hbl).trans hb,Ft,hs,hD⟩)
  exact AnyZ.sorted_in Tryz.sorted78 Fence.wide 5 trivial trivial trivial trivial rfl (by omega) (Tryz.sorts78 _) (enters_of Tryz.func91 (by kernel_rfl) rfl) 92 #[.pointer (some ⟨w.heap.size,0,none⟩)] trivial (enters_of Tryz.func92 (by kernel_rfl) rfl) _ _ hmax hbytes _ hseq
def Tryz.keys80_ren:Go.Shelf.Ren:=⟨fun| 7=>80| 10=>93| n=>n,fun| 23=>113| 26=>9| 3=>129| 28=>170| 0=>0| 27=>169| 33=>123| 4=>4| n=>n,fun| n=>n⟩
theorem Tryz.keys80:Go.Proofs.SlLaysZ.n7 Tryz.prog Tryz.keys80_ren:= {
  mixed:=by kernel_rfl
  f7:=⟨Tryz.f80.name,by decide,Tryz.func80.trans (congrArg some (by kernel_rfl))⟩
  f10:=⟨Tryz.f93.name,by decide,Tryz.func93.trans (congrArg some (by kernel_rfl))⟩
  t0:=Tryz.underlying0
  a0:=Tryz.isAgg0
  z0:=Tryz.sizeOf0
  v0:=Tryz.zeroValue0
  t4:=Tryz.underlying4
  a4:=Tryz.isAgg4
  z4:=Tryz.sizeOf4
  v4:=Tryz.zeroValue4
  t23:=Tryz.underlying113
  a23:=Tryz.isAgg113
  z23:=Tryz.sizeOf113
  v23:=Tryz.zeroValue113
  t26:=Tryz.underlying9
  a26:=Tryz.isAgg9
  z26:=Tryz.sizeOf9
  v26:=Tryz.zeroValue9
  t27:=Tryz.underlying169
  a27:=Tryz.isAgg169
  z27:=Tryz.sizeOf169
  v27:=Tryz.zeroValue169
  t28:=Tryz.underlying170
  a28:=Tryz.isAgg170
  z28:=Tryz.sizeOf170
  v28:=Tryz.zeroValue170
  t33:=Tryz.underlying123
  a33:=Tryz.isAgg123
  z33:=Tryz.sizeOf123
  v33:=Tryz.zeroValue123 }
theorem Tryz.maps_Keys_80 (mb:Option Nat) (W:World):CallsIn Fence.wide 5 Tryz.prog 80 #[.map mb] W fun e w'=>e= .returned (.func (.func 93) #[] #[.pointer (some ⟨W.heap.size,0,none⟩)])∧w'=W.alloc (.cells #[.map mb] 113):=
  AnyZ.keys_in Tryz.keys80 Fence.wide 5 trivial rfl mb W
theorem Tryz.slices_Sorted_keys_78_80 {H:Type} (b nn:Nat) (D0:DataW H) (R:Value→Option (DataW H×List MemPlace)) (w:World) (hown:w.ownsMap Tryz.prog 9 R b nn D0) (hmax:Maps.size D0≤maxLen) (hbytes:Maps.size D0 * 16≤140737488355328):
    CallsIn Fence.wide 5 Tryz.prog 78 #[.func (.func 93) #[] #[.pointer (some ⟨w.heap.size,0,none⟩)]] (w.alloc (.cells #[.map (some b)] 113)) fun e w'=> ∃ (v:Value) (ss:List (List UInt8)),e= .returned v∧ss.Perm (strKeys D0)∧
      w'.ownsRow (w.alloc (.cells #[.map (some b)] 113)).heap.size 9 1 v ss.length ((ss.mergeSort (fun x y=>decide (x≤y))).map encStr)∧(v= .slice none 0 0↔ss= [])∧Below (w.alloc (.cells #[.map (some b)] 113)).heap.size (w.alloc (.cells #[.map (some b)] 113)) w':=by
  have hbl:=hown.lt
  have hseq:SeqGives Fence.wide 2 Tryz.prog 93 #[.pointer (some ⟨w.heap.size,0,none⟩)] encStr (fun ss=>ss.Perm (strKeys D0)) (Maps.size D0) (w.alloc (.cells #[.map (some b)] 113)):=
    AnyZ.keys_gives (ρ:=Tryz.keys80_ren) { Tryz.keys80 with } Fence.wide _ trivial rfl (by omega) w.heap.size b nn D0 _ (by simp) (by simp) (by
      obtain ⟨es,clock,hb,Ft,hs,hD⟩:=hown
      exact ⟨es,clock,(Below.heap_alloc _ _ b hbl).trans hb,Ft,hs,hD⟩)
  exact AnyZ.sorted_in Tryz.sorted78 Fence.wide 5 trivial trivial trivial trivial rfl (by omega) (Tryz.sorts78 _) (enters_of Tryz.func91 (by kernel_rfl) rfl) 93 #[.pointer (some ⟨w.heap.size,0,none⟩)] trivial (enters_of Tryz.func93 (by kernel_rfl) rfl) _ _ hmax hbytes _ hseq
end Go.Proofs
