import Derived.Test.YtchddaafibjmgaaGreatMF2
import Derived.Test.YtchddaafibjmgaaGreatMF8
import Derived.Test.YtchddaafibjmgaaGreatME8
import Derived.Lib.SmallJoins
set_option maxRecDepth 100000
set_option maxHeartbeats 20000000
namespace Go.Proofs.YtchddaafibjmgaaGreat
section
open Go.RowKit Go.Maps
theorem all_any (h1 h2:Int) (r1 r2 t1 t2:Bool) (a:Option Addr) (L:List qbr) (cap:Nat) (w:World) (hL:qbl (fun b=>b < w.heap.size) w a L) (hn:L.length≤480000000000):
  Calls Tryz.prog 5 #[.agg #[.int .i64 h1,.bool r1,.bool t1],.agg #[.int .i64 h2,.bool r2,.bool t2],.slice a L.length cap] w fun e w'=>e= .returned (.bool true)∧Below w.heap.size w w':=by
 obtain ⟨wc,hwc⟩: ∃ W,W=(w.alloc (.cells #[.int .i64 h1,.bool r1,.bool t1] 23)).alloc (.cells #[.int .i64 h2,.bool r2,.bool t2] 23):=⟨_,rfl⟩
 have hbc:Below w.heap.size w wc:=by rw [hwc];exact qj (qi _ _) (qi _ _)
 have sc:wc.heap.size=w.heap.size+2:=by rw [hwc];simp
 have bc0:wc.heap[w.heap.size]? =some (.cells #[.int .i64 h1,.bool r1,.bool t1] 23 (0,0)):=by
  rw [hwc,(qi _ _).block _ (by simp)]
  exact qm _ _
 have bc1:wc.heap[w.heap.size+1]? =some (.cells #[.int .i64 h2,.bool r2,.bool t2] 23 (0,0)):=by
  rw [hwc]
  simpa using qm (w.alloc (.cells #[.int .i64 h1,.bool r1,.bool t1] 23)) (.cells #[.int .i64 h2,.bool r2,.bool t2] 23)
 have l0:w.heap.size < wc.heap.size:=by omega
 have l1:w.heap.size+1 < wc.heap.size:=by omega
 have d0:wc.cell? ⟨w.heap.size,0,none⟩=some (.int .i64 h1):=by rw [ql bc0];rfl
 have d1:wc.cell? ⟨w.heap.size,1,none⟩=some (.bool r1):=by rw [ql bc0];rfl
 have d2:wc.cell? ⟨w.heap.size,2,none⟩=some (.bool t1):=by rw [ql bc0];rfl
 have e0:wc.cell? ⟨w.heap.size+1,0,none⟩=some (.int .i64 h2):=by rw [ql bc1];rfl
 have e1:wc.cell? ⟨w.heap.size+1,1,none⟩=some (.bool r2):=by rw [ql bc1];rfl
 have e2:wc.cell? ⟨w.heap.size+1,2,none⟩=some (.bool t2):=by rw [ql bc1];rfl
 have HL:Hid (qbl (fun b=>b < w.heap.size) w a L):=hL
 have Hbc:Hid (Below w.heap.size w wc):=hbc
 clear bc0 bc1 hL hbc sc
 go_enter Tryz.func5,Tryz.ntmps5
 go_upto_region 1 with fail
 rw [← hwc]
 clear hwc
 go_upto_region 2 with ((go_at_call 6;refine (begun_yes _).mono ?_;rintro e w1 ⟨rfl,hb1⟩;have d0':=(hb1.cell (p:=⟨w.heap.size,0,none⟩) l0).trans d0;have d1':=(hb1.cell (p:=⟨w.heap.size,1,none⟩) l0).trans d1;have d2':=(hb1.cell (p:=⟨w.heap.size,2,none⟩) l0).trans d2;have e0':=(hb1.cell (p:=⟨w.heap.size+1,0,none⟩) l1).trans e0;have e1':=(hb1.cell (p:=⟨w.heap.size+1,1,none⟩) l1).trans e1;have e2':=(hb1.cell (p:=⟨w.heap.size+1,2,none⟩) l1).trans e2;have Hb1:Hid _:=hb1;clear hb1))
 have Hbw:Hid (Below w.heap.size w w1):=qj Hbc.out Hb1.out
 have HL1:Hid (qbl (fun b=>b < w1.heap.size) w1 a L):=(qbl.kept HL.out (Kept.of_below (F:=qq) Hbw.out) fun _ _=>id).up fun b hb=>Nat.lt_of_lt_of_le hb Hbw.out.size
 clear d0 d1 d2 e0 e1 e2
 go_wp2_with ((go_at_call 7;refine (plays_11 h1 h2 r1 r2 t1 t2 a L cap _ HL1.out hn).mono ?_;rintro e w2 ⟨rfl,hb2⟩;have Hb2:Hid _:=hb2;clear hb2))
 go_ret
 exact ⟨rfl,qj Hbw.out Hb2.out⟩
end
section
open Go.ChangeShapes Go.WideShapes Go.ChangeAt Go.RowKit Go.Joins
theorem Tryz.cellsCF:Tryz.prog.cellsOf 23=3:=by kernel_rfl
theorem Tryz.cellsB:Tryz.prog.cellsOf 4=1:=by kernel_rfl
section
variable {H:Type} {enc:TypeId×Value→H} {W:World} {base fuel:Nat} {spare:Nat→Bool} {held:Bool} {cs:List Value} {x:DataW H×List MemPlace}
theorem qf0 (h:DataW.trod enc Tryz.prog W base spare held fuel 23 cs=some x): ∃ (n:Int) (r t:Bool),cs= [.int .i64 n,.bool r,.bool t]:=by
 obtain ⟨xs,m,_,rfl,hl,hxl,hf⟩:=DataW.trod_struct Tryz.underlying23 h
 rw [Tryz.cellsCF] at hl
 obtain ⟨c0,c1,c2,rfl⟩:=list3 hl
 obtain ⟨y0,y1,y2,rfl⟩:=list3 hxl
 clear hl hxl
 have g0:=hf 0 _ rfl
 have g1:=hf 1 _ rfl
 have g2:=hf 2 _ rfl
 simp [Tryz.cellsI,Tryz.cellsB] at g0 g1 g2
 obtain ⟨n,e0,_,_⟩:=DataW.trod_int Tryz.underlying3 g0
 obtain ⟨r,e1,_⟩:=DataW.trod_bool Tryz.underlying4 g1
 obtain ⟨t,e2,_⟩:=DataW.trod_bool Tryz.underlying4 g2
 simp at e0 e1 e2
 exact ⟨n,r,t,by rw [e0,e1,e2]⟩
end
theorem all_lifted (os:Os) (started:os.Started) (H:Type) (enc:TypeId×Value→H):
  ReturnsInHanded {} Tryz.checked os 5 .any (Rows.allSpec.pre6 enc Tryz.prog Tryz.f5 Rows.allRow.domain false) (Rows.allSpec.post enc Tryz.prog Tryz.f5 false true false false):=by
 refine returnsInHanded_of_change_sized (C:=Tryz.checked) Tryz.own started (by kernel_rfl) Tryz.func5
  (ChangeSpec.witness6 (enc:=enc) (C:=Tryz.checked) false ⟨#[],#[.agg #[.int .i64 0,.bool false,.bool false],.agg #[.int .i64 0,.bool false,.bool false],.slice none 0 0],[]⟩ 8 (by kernel_rfl) (by kernel_rfl) (by kernel_rfl) (by kernel_rfl)) ?_
 intro W base args ds gs before hval0 hW _ hsz0 _
 have hsz:(DataW.weightsEach Tryz.prog (Tryz.f5.params.toList++Rows.allSpec.plain.varTypes Tryz.prog) (ds++gs)).all (· ≤reachBytes)=true:=hsz0
 clear hsz0
 have hval: ∀ (j:Nat) t v,Tryz.f5.params[j]? =some t→args[j]? =some v→Value.okWide Tryz.prog W .any base t v:=hval0
 have hW':=hW
 obtain ⟨p,q,hA0,hV,rfl,_,_⟩:=hW
 have hA:DataW.TrodAll enc Tryz.prog W 0 (fun _=>true) true Tryz.f5.params.toList args.toList ds p:=hA0
 rw [Tryz.params5] at hA hval hsz
 obtain ⟨v0,v1,v2,d0,d1,d2,p0,p1,p2,rfl,rfl,rfl,h0,h1,h2⟩:=trodAll_three hA
 obtain ⟨rfl,rfl⟩:=trodVars_none hV
 obtain ⟨cs0,rfl,_⟩:=okWide_struct Tryz.underlying23 (hval 0 23 v0 rfl rfl)
 obtain ⟨cs1,rfl,_⟩:=okWide_struct Tryz.underlying23 (hval 1 23 v1 rfl rfl)
 obtain ⟨a2,l2,c2,rfl⟩:=okWide_slice Tryz.underlying24 (hval 2 24 v2 rfl rfl)
 have h0k:=h0
 have h1k:=h1
 have h2k:=h2
 obtain ⟨f0,hf0⟩:=h0
 obtain ⟨f1,hf1⟩:=h1
 obtain ⟨f2,hf2⟩:=h2
 clear hA0 hval0
 simp only [List.append_nil] at hW'
 have hlt0: ∀ x∈p0,x.block < W.heap.size:=fun x hx=>by simpa using hW'.lt x (by simp [hx])
 have hlt1: ∀ x∈p1,x.block < W.heap.size:=fun x hx=>by simpa using hW'.lt x (by simp [hx])
 have hlt2: ∀ x∈p2,x.block < W.heap.size:=fun x hx=>by simpa using hW'.lt x (by simp [hx])
 have lt2:Light 24 d2:=fun n hn=>by simpa using List.all_eq_true.1 hsz n (DataW.weights_mem_each (j:=2) rfl rfl n hn)
 obtain ⟨n0,r0,t0',e0⟩:=qf0 hf0
 obtain ⟨n1,r1,t1',e1⟩:=qf0 hf1
 obtain ⟨b2,k2,L2,e2,z2,R2⟩:=open_steps hf2 lt2
 have e0':cs0= #[.int .i64 n0,.bool r0,.bool t0']:=Array.ext' (by simpa [Value.cells] using e0)
 have e1':cs1= #[.int .i64 n1,.bool r1,.bool t1']:=Array.ext' (by simpa [Value.cells] using e1)
 subst e0'
 subst e1'
 simp [Value.cells] at e2
 obtain ⟨rfl,rfl,rfl⟩:=e2
 refine (all_any n0 n1 r0 r1 t0' t1' a2 L2 c2 W R2 z2).mono fun e W' ⟨he,hb⟩=> ?_
 subst he
 have t0:=Below.trod Tryz.laidOut (by kernel_rfl) (of_decide_eq_true (by kernel_rfl)) h0k hb hlt0
 have t1:=Below.trod Tryz.laidOut (by kernel_rfl) (of_decide_eq_true (by kernel_rfl)) h1k hb hlt1
 have t2:=Below.trod Tryz.laidOut (by kernel_rfl) (of_decide_eq_true (by kernel_rfl)) h2k hb hlt2
 have t3:=trodAll_mk3 t0 t1 t2
 rw [← List.append_assoc] at t3
 exact ⟨_,rfl,_,_,_,[]++ [],p0++p1++p2,[],hW',trodAll_mk1 (shut_bool Tryz.underlying4 true),t3,rfl,hb.frame _,fun h=>by cases h⟩
theorem all_holds:Rows.AllSaid:=
 OpenClaim.holds_of_wide 5 Tryz.f5 rfl rfl rfl rfl rfl rfl rfl ⟨rfl,rfl,rfl,rfl,rfl⟩ rfl rfl rfl rfl rfl (by kernel_rfl) Tryz.func5 (by kernel_rfl)
  (of_decide_eq_true (by kernel_rfl)) (by unfold Func.isWrapper;first| (rw [if_pos (by decide +kernel)];kernel_rfl)| (rw [if_neg (by decide +kernel)];exact ⟨rfl,rfl⟩))
  (fun os started H enc _=>all_lifted os started H enc)
end
end Go.Proofs.YtchddaafibjmgaaGreat
