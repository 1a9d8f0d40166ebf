import Derived.Test.YtchddaafibjmgaaGreatME1
import Derived.Test.YtchddaafibjmgaaGreatMA12
import Derived.Test.YtchddaafibjmgaaGreatMA17
import Derived.Deep.CutRange
set_option maxRecDepth 100000
set_option maxHeartbeats 20000000
namespace Go.Proofs.YtchddaafibjmgaaGreat
section
open Go.RowKit Go.Maps
theorem infoSRS:(Tryz.prog.info? 86).map (fun i=>(i.zero,i.size,i.bytes))=some (some (.slice none 0 0),1,24):=by kernel_rfl
theorem keepReasons_raw (w:World) (X c:Nat) (a0:Option Addr) (k0:Nat) (v1 v2 v3:Value) (xs ys:List Value) (hbx:w.heap[X]? =some (.cells #[.slice a0 c k0,v1,v2,v3] 37 (0,0))) (H0:w.ownsRow 0 86 1 (.slice a0 c k0) c xs) (hc:c≤4000000000000)
  (oo:Option Addr) (n oc:Nat) (R:w.ownsRow 0 88 2 (.slice oo n oc) n ys) (hn:n≤990):
  Calls Tryz.prog 56 #[.pointer (some ⟨X,0,none⟩),.slice oo n oc] w fun e w'=>e= .returned (.tuple #[])∧qeh 88 86 [.string ⟨#[]⟩,.int .i64 (-1 - (c:Int))] (.slice oo n oc) (.slice a0 c k0) c n xs X 0 w w':=by
 have lX:=qo hbx
 have x0:w.cell? ⟨X,0,none⟩=some (.slice a0 c k0):=by rw [ql hbx];rfl
 have hRX:(Value.slice oo n oc).ownBlock≠some X:=fun h=>by
  obtain ⟨cur,hcur⟩:=qby R h
  rw [hbx] at hcur
  simp at hcur
 have hvX: ¬ (Value.slice a0 c k0).ownBlock=some X:=fun h=>by
  obtain ⟨cur,hcur⟩:=qby H0 h
  rw [hbx] at hcur
  simp at hcur
 have fX:w.frozen? ⟨X,0,none⟩=false:=qp hbx
 have HRv:Hid (∀ b,(Value.slice a0 c k0).ownBlock=some b→(Value.slice oo n oc).ownBlock≠some b):=fun b h h'=>qce H0 R (by decide) h h'
 have F0:qdn w 88 [.string ⟨#[]⟩,.int .i64 (-1 - (c:Int))] (.slice oo n oc) n 0:=qdn.start R
 have HRlt:Hid (∀ b,(Value.slice oo n oc).ownBlock=some b→b < w.heap.size):=fun b h=>(R.lt b h).2
 have HVlt:Hid (∀ b,(Value.slice a0 c k0).ownBlock=some b→b < w.heap.size):=fun b h=>(H0.lt b h).2
 have HH:Hid (w.ownsRow 0 86 1 (.slice a0 c k0) c xs):=H0
 clear H0 R hbx
 have HO:Hid (∀ u∈ [Value.string ⟨#[]⟩,.int .i64 (-1 - (c:Int))],u.oneCell'=true):=by
  intro u hu
  simp only [List.mem_cons,List.not_mem_nil,or_false] at hu
  rcases hu with rfl| rfl<;>rfl
 obtain ⟨w0,hw0⟩: ∃ W,W=w.alloc (.cells #[.string ⟨#[]⟩,.int .i64 (-1 - (c:Int))] 88):=⟨_,rfl⟩
 have hb0:Below w.heap.size w w0:=by rw [hw0];exact qi _ _
 have lz:w.heap.size < w0.heap.size:=by rw [hw0];simp
 have bm:w0.heap[w.heap.size]? =some (.cells #[.string ⟨#[]⟩,.int .i64 (-1 - (c:Int))] 88 (0,0)):=by rw [hw0];exact qm _ _
 have m0:w0.cell? ⟨w.heap.size,0,none⟩=some (.string ⟨#[]⟩):=by rw [ql bm];rfl
 have m1:w0.cell? ⟨w.heap.size,1,none⟩=some (.int .i64 (-1 - (c:Int))):=by rw [ql bm];rfl
 have y0:w0.cell? ⟨X,0,none⟩=some (.slice a0 c k0):=(hb0.cell (p:=⟨X,0,none⟩) lX).trans x0
 have fX0:w0.frozen? ⟨X,0,none⟩=false:=(hb0.frozen (p:=⟨X,0,none⟩) lX).trans fX
 have F1:qdn w0 88 [.string ⟨#[]⟩,.int .i64 (-1 - (c:Int))] (.slice oo n oc) n 0:=F0.kept (Kept.of_below (F:=qq) hb0) fun _ _=>id
 go_enter Tryz.func56,Tryz.ntmps56
 go_wp2
 rw [← hw0]
 have HB0:Hid (w0.ownsRow 0 86 1 (.slice a0 c k0) c xs):=(Kept.of_below (F:=qq) hb0).ownsRow HH.out fun _ _=>id
 have HK0:Hid (Kept (fun b=>(Value.slice oo n oc).ownBlock=some b) w w0):=Kept.of_below hb0
 clear hw0 bm F0 hb0 x0
 have HF1:Hid _:=F1
 clear F1
 go_loopw [5] (fun i wr=> ∃ k:Nat,k≤n∧i= .int .i64 k∧Kept (fun b=>(Value.slice oo n oc).ownBlock=some b) w0 wr∧qdn wr 88 [.string ⟨#[]⟩,.int .i64 (-1 - (c:Int))] (.slice oo n oc) n k) (fun i _=>n - (intOf i).toNat)
 case atStart=>exact ⟨0,Nat.zero_le _,rfl,Kept.refl _ _,HF1.out⟩
 case round=>
  clear HF1
  obtain ⟨k,hk,rfl,hkr,hfr⟩:=hrel
  have zX:X < wr.heap.size:=Nat.lt_of_lt_of_le (Nat.lt_trans lX lz) hkr.size
  have zm:w.heap.size < wr.heap.size:=Nat.lt_of_lt_of_le lz hkr.size
  have hmm:(Value.slice oo n oc).ownBlock≠some w.heap.size:=fun h=>Nat.lt_irrefl _ (HRlt.out _ h)
  have y0r:=(hkr.cell (p:=⟨X,0,none⟩) (Nat.lt_trans lX lz) hRX).trans y0
  have fzX:=(hkr.frozen (p:=⟨X,0,none⟩) (Nat.lt_trans lX lz) hRX).trans fX0
  have m0r:=(hkr.cell (p:=⟨w.heap.size,0,none⟩) lz hmm).trans m0
  have m1r:=(hkr.cell (p:=⟨w.heap.size,1,none⟩) lz hmm).trans m1
  by_cases hlt:k < n
  ·obtain ⟨g,rfl,lg,fz⟩:=hfr.here (by omega)
   obtain ⟨u0,hu0⟩:=hfr.cell hlt (j:=0) (by simp)
   obtain ⟨u1,hu1⟩:=hfr.cell hlt (j:=1) (by simp)
   simp only [List.length_cons,List.length_nil,Nat.zero_add,Nat.reduceAdd,Nat.add_zero] at hu0 hu1
   have f0:=fz (k * 2)
   have f1:=fz (k * 2+1)
   have HFr:Hid _:=hfr
   have HKr:Hid _:=hkr
   clear hfr hkr fz
   go_wp2
   go_roundw
   case rel=>exact ⟨k+1,by omega,by go_num,HKr.out.trans (qg1 g [.string ⟨#[]⟩,.int .i64 (-1 - (c:Int))] (k * 2) wr) (fun i _ h=>by rw [h];rfl),HFr.out.set hlt⟩
   case measure=>simp [intOf];omega
  ·obtain rfl:k=n:=by omega
   have R1:=hfr.done (by simp)
   have M0:MG 88 [.string ⟨#[]⟩,.int .i64 (-1 - (c:Int))] wr (Value.slice oo k oc).ownBlock wr [⟨oo,k,oc⟩]:=⟨Kept.refl _ _,fun x hx=>by rw [List.mem_singleton] at hx;subst hx;exact R1,fun x hx b hb=>by rw [List.mem_singleton] at hx;subst hx;exact .inl hb,fun b hb=>(R1.lt b hb).2⟩
   have hB:Hid (wr.ownsRow 0 86 1 (.slice a0 c k0) c xs):=hkr.ownsRow (HB0.out) HRv.out
   have HKr:Hid _:=hkr
   have HM0:Hid _:=M0
   have HX:Hid ((Value.slice oo k oc).ownBlock≠some X∧(Value.slice oo k oc).ownBlock≠some w.heap.size):=⟨hRX,hmm⟩
   have HV:Hid ((∀ b,(Value.slice a0 c k0).ownBlock=some b→(Value.slice oo k oc).ownBlock≠some b)∧ ¬ (Value.slice a0 c k0).ownBlock=some X∧ ¬ (Value.slice a0 c k0).ownBlock=some w.heap.size):=⟨HRv.out,hvX,fun h=>Nat.lt_irrefl _ (HVlt.out _ h)⟩
   have HS0:Hid (wr.drew.cell? ⟨X,0,none⟩=some (.slice a0 c k0)∧wr.drew.cell? ⟨w.heap.size,0,none⟩=some (.string ⟨#[]⟩)∧wr.drew.cell? ⟨w.heap.size,1,none⟩=some (.int .i64 (-1 - (c:Int)))):=⟨y0r,m0r,m1r⟩
   clear hfr hkr R1 M0 hRX hmm hvX m0 m1 y0 fX0 fX hlt hk
   go_wp2
   have hHeld:=HS0.out
   refine qfy 25 (fun w'=>w'.cell? ⟨X,0,none⟩=some (.slice a0 c k0)∧w'.cell? ⟨w.heap.size,0,none⟩=some (.string ⟨#[]⟩)∧w'.cell? ⟨w.heap.size,1,none⟩=some (.int .i64 (-1 - (c:Int)))) #[false,false,false,false,false,false,false,false,false,false,false,false,false,false,false,false,false,false,false,false,false,false,false,false,false,false] (by kernel_rfl) rfl ?_
   refine qhr HS0.out 0 (some 23) [] ?_
   simp only [Act.put,pt]
   refine qhr HS0.out 1 (some 24) [] ?_
   simp only [Act.put,pt]
   refine qhr HS0.out 2 (some 25) [] ?_
   simp only [Act.put,pt]
   refine qhr HS0.out 3 (some 26) [] ?_
   simp only [Act.put,pt]
   refine qhr HS0.out 4 (some 27) [] ?_
   simp only [Act.put,pt]
   refine qhr HS0.out 5 (some 28) [] ?_
   simp only [Act.put,pt]
   refine qhr HS0.out 6 (some 29) [] ?_
   simp only [Act.put,pt]
   refine qhr HS0.out 7 (some 30) [] ?_
   simp only [Act.put,pt]
   refine qhr HS0.out 10 (some 33) [] ?_
   simp only [Act.put,pt]
   refine qhr HS0.out 11 (some 34) [] ?_
   simp only [Act.put,pt]
   refine qhr HS0.out 12 (some 35) [] ?_
   simp only [Act.put,pt]
   refine qhr HS0.out 15 (some 38) [] ?_
   simp only [Act.put,pt]
   refine qhr HS0.out 16 (some 39) [] ?_
   simp only [Act.put,pt]
   refine qhr HS0.out 17 (some 40) [] ?_
   simp only [Act.put,pt]
   refine qhr HS0.out 18 (some 41) [] ?_
   simp only [Act.put,pt]
   have KS: ∀ W,Kept (fun b=>(Value.slice oo k oc).ownBlock=some b∨(Value.slice a0 c k0).ownBlock=some b) wr W→(fun w'=>w'.cell? ⟨X,0,none⟩=some (.slice a0 c k0)∧w'.cell? ⟨w.heap.size,0,none⟩=some (.string ⟨#[]⟩)∧w'.cell? ⟨w.heap.size,1,none⟩=some (.int .i64 (-1 - (c:Int)))) W:=fun W hk=>⟨(hk.cell (p:=⟨X,0,none⟩) zX (fun h=>h.elim HX.out.1 HV.out.2.1)).trans y0r,(hk.cell (p:=⟨w.heap.size,0,none⟩) zm (fun h=>h.elim HX.out.2 HV.out.2.2)).trans m0r,(hk.cell (p:=⟨w.heap.size,1,none⟩) zm (fun h=>h.elim HX.out.2 HV.out.2.2)).trans m1r⟩
   have HKS:Hid _:=KS;clear KS hHeld
   refine keep_draw (L:= #[true,true,true,true,true,true,true,true,false,false,true,true,true,false,false,true,true,true,true,false,false,false,false,false,false,false]) (Lend:= #[true,true,true,true,true,true,true,true,true,true,true,true,true,true,true,true,true,true,true,true,true,true,true,false,false,false]) (mk:= [.string ⟨#[]⟩,.int .i64 (-1 - (c:Int))]) (e:=88) (te:=88) (le:=86) (tle:=86) (tr:=86) (tl:=32) (oo:=oo) (k:=k) (oc:=oc) (ax:=a0) (c:=c) (kx:=k0) 8 13 19 21 9 14 20 22 31 36 42 44 32 37 43 45 29 33 38 27 rfl rfl rfl rfl rfl rfl rfl rfl ⟨rfl,rfl⟩ ⟨rfl,rfl⟩ ⟨rfl,rfl⟩ ⟨rfl,rfl⟩ ⟨rfl,rfl⟩ ⟨rfl,rfl⟩ ⟨rfl,rfl⟩ ⟨rfl,rfl⟩ (by kernel_rfl) (by decide) (by decide) (by decide) (fun a W hj=>by (have h30:a.eval (.tmp 30)= .agg #[.string ⟨#[]⟩,.int .i64 (-1 - (c:Int))]:=hj 30 (by decide));refine qdg rfl Tryz.underlying86 infoRS (by decide) (by decide) ?_;simp only [List.map_toArray,List.map_cons,List.map_nil,h30];kernel_rfl) (fun a W hj=>by (have h34:a.eval (.tmp 34)= .agg #[.string ⟨#[]⟩,.int .i64 (-1 - (c:Int))]:=hj 34 (by decide);have h35:a.eval (.tmp 35)= .agg #[.string ⟨#[]⟩,.int .i64 (-1 - (c:Int))]:=hj 35 (by decide));refine qdg rfl Tryz.underlying86 infoRS (by decide) (by decide) ?_;simp only [List.map_toArray,List.map_cons,List.map_nil,h34,h35];kernel_rfl) (fun a W hj=>by (have h39:a.eval (.tmp 39)= .agg #[.string ⟨#[]⟩,.int .i64 (-1 - (c:Int))]:=hj 39 (by decide);have h40:a.eval (.tmp 40)= .agg #[.string ⟨#[]⟩,.int .i64 (-1 - (c:Int))]:=hj 40 (by decide);have h41:a.eval (.tmp 41)= .agg #[.string ⟨#[]⟩,.int .i64 (-1 - (c:Int))]:=hj 41 (by decide));refine qdg rfl Tryz.underlying86 infoRS (by decide) (by decide) ?_;simp only [List.map_toArray,List.map_cons,List.map_nil,h39,h40,h41];kernel_rfl) (fun a W qq1 qq2 qq3 nn1 nn2 nn3 mm1 mm2 mm3 hj f1 f2 f3=>by (have h28:a.eval (.tmp 28)= .slice oo k oc:=hj 28 (by decide));refine qdg rfl Tryz.underlying32 infoSRS (by decide) (by decide) ?_;simp only [List.map_toArray,List.map_cons,List.map_nil,h28,f1,f2,f3];kernel_rfl) rfl rfl rfl rfl rfl rfl rfl rfl Tryz.underlying86 infoRS rfl (by decide) (by simp) HO.out Tryz.underlying32 infoSRS rfl (by omega) (by omega) hB.out HV.out.1 HM0.out.drew HKS.out (by kernel_rfl) (by kernel_rfl) (by kernel_rfl) (by kernel_rfl) (by kernel_rfl) (by kernel_rfl) (by kernel_rfl) (by kernel_rfl) (by kernel_rfl) (by kernel_rfl) (by kernel_rfl) (by kernel_rfl) (by kernel_rfl) (by kernel_rfl) (by kernel_rfl) (by kernel_rfl) (by kernel_rfl) ?_
   intro B1 B2 B3 B4 ao1 cp1 ao2 cp2 ao3 cp3 ao4 cp4 W3 W4 ob M3 hk4 R4 f4 K4
   have fz4:=(K4.frozen (p:=⟨X,0,none⟩) zX (fun h=>h.elim HX.out.1 HV.out.2.1)).trans fzX
   have HS4:=HKS.out _ K4
   have zW:=K4.size
   have HM3:Hid _:=M3;have HK4:Hid _:=hk4;have HR4:Hid _:=R4;have HF4:Hid _:=f4;clear M3 hk4 R4 f4 K4
   simp only [act6,pO,Act.put,List.setIfInBounds_toArray,List.set_cons_zero,List.set_cons_succ]
   have hHeld:=HS4;(try dsimp only at hHeld)
   refine qhr HS4 23 (some 46) [24] ?_
   simp only [Act.put,pt]
   refine qhr HS4 24 (some 47) [] ?_
   simp only [Act.put,pt]
   (refine qaf _ [25] (by kernel_rfl) (by simp) ?_;refine qaa.cons rfl ?_ qaa.nil;intro o ho K hK;simp only [List.getElem?_toArray,List.getElem?_cons_succ,List.getElem?_cons_zero,Option.some.injEq] at ho;subst ho;go_simp;refine hK.out _ _ (fun h=>absurd rfl h) (fun _=> ?_);clear hK K;refine qfu (by kernel_rfl) ?_ _)
   all_goals ((try go_wp2);go_end0;exact ⟨rfl,keep_close rfl rfl rfl rfl HM3.out (HK0.out.trans HKr.out fun _ _ h=>h) HK4.out HR4.out HF4.out⟩)
end
section
open Go.RowKit Go.Maps
theorem infoUT:(Tryz.prog.info? 91).map (fun i=>(i.zero,i.size,i.bytes))=some (some (.agg #[.string ⟨#[]⟩,.int .i64 0,.int .i64 0,.int .i64 0,.int .i64 0]),5,48):=by kernel_rfl
theorem infoLI:(Tryz.prog.info? 94).map (fun i=>(i.zero,i.size,i.bytes))=some (some (.agg #[.string ⟨#[]⟩,.string ⟨#[]⟩,.bool false,.int .i64 0]),4,48):=by kernel_rfl
theorem infoSUT:(Tryz.prog.info? 89).map (fun i=>(i.zero,i.size,i.bytes))=some (some (.slice none 0 0),1,24):=by kernel_rfl
theorem infoSLI:(Tryz.prog.info? 92).map (fun i=>(i.zero,i.size,i.bytes))=some (some (.slice none 0 0),1,24):=by kernel_rfl
theorem keepState_raw (w:World) (X c1 c2:Nat) (a1 a2:Option Addr) (k1 k2:Nat) (v0 v3:Value) (xs1 xs2 ys1 ys2:List Value) (hbx:w.heap[X]? =some (.cells #[v0,.slice a1 c1 k1,.slice a2 c2 k2,v3] 37 (0,0))) (H1:w.ownsRow 0 89 1 (.slice a1 c1 k1) c1 xs1) (H2:w.ownsRow 0 92 1 (.slice a2 c2 k2) c2 xs2) (hc1:c1≤4000000000000) (hc2:c2≤4000000000000)
  (o1:Option Addr) (n1 q1:Nat) (R1:w.ownsRow 0 91 5 (.slice o1 n1 q1) n1 ys1) (hn1:n1≤990) (o2:Option Addr) (n2 q2:Nat) (R2:w.ownsRow 0 94 4 (.slice o2 n2 q2) n2 ys2) (hn2:n2≤990) (tm wt:Int):
  Calls Tryz.prog 36 #[.pointer (some ⟨X,0,none⟩),.agg #[.int .i64 tm,.slice o1 n1 q1,.slice o2 n2 q2,.int .i64 wt]] w fun e w'=>e= .returned (.tuple #[])∧ ∃ wm,qeh 91 89 [.string ⟨#[]⟩,.int .i64 0,.int .i64 0,.int .i64 0,.int .i64 (-1 - (c1:Int))] (.slice o1 n1 q1) (.slice a1 c1 k1) c1 n1 xs1 X 1 w wm∧qeh 94 92 [.string ⟨#[]⟩,.string ⟨#[]⟩,.bool false,.int .i64 (-1 - (c2:Int))] (.slice o2 n2 q2) (.slice a2 c2 k2) c2 n2 xs2 X 2 wm w':=by
 have lX0:=qo hbx
 obtain ⟨wb,hwb⟩: ∃ V,V=w.alloc (.cells #[.int .i64 tm,.slice o1 n1 q1,.slice o2 n2 q2,.int .i64 wt] 99):=⟨_,rfl⟩
 have hbb:Below w.heap.size w wb:=by rw [hwb];exact qi _ _
 have KB:=Kept.of_below (F:=qq) hbb
 have bs0:wb.heap[w.heap.size]? =some (.cells #[.int .i64 tm,.slice o1 n1 q1,.slice o2 n2 q2,.int .i64 wt] 99 (0,0)):=by rw [hwb];exact qm _ _
 have hbx':wb.heap[X]? =some (.cells #[v0,.slice a1 c1 k1,.slice a2 c2 k2,v3] 37 (0,0)):=(hbb.block X lX0).trans hbx
 have lX:=qo hbx'
 have lS:=qo bs0
 have nX: ∀ (e:TypeId) (s:Nat) (v:Value) (n:Nat) (zs:List Value),w.ownsRow 0 e s v n zs→e≠37→v.ownBlock≠some X∧v.ownBlock≠some w.heap.size:=fun e s v n zs h he=>⟨fun hh=>by
  obtain ⟨cur,hcur⟩:=qby h hh
  rw [hbx] at hcur
  simp only [Option.some.injEq,Obj.cells.injEq] at hcur
  exact he hcur.2.1.symm,fun hh=>Nat.lt_irrefl _ (h.lt _ hh).2⟩
 have HN2:Hid ((Value.slice o2 n2 q2).ownBlock≠some X∧(Value.slice o2 n2 q2).ownBlock≠some w.heap.size∧ ¬ (Value.slice a2 c2 k2).ownBlock=some X∧ ¬ (Value.slice a2 c2 k2).ownBlock=some w.heap.size):=⟨(nX _ _ _ _ _ R2 (by decide)).1,(nX _ _ _ _ _ R2 (by decide)).2,(nX _ _ _ _ _ H2 (by decide)).1,(nX _ _ _ _ _ H2 (by decide)).2⟩
 have HN:Hid ((Value.slice o1 n1 q1).ownBlock≠some X∧(Value.slice o1 n1 q1).ownBlock≠some w.heap.size∧ ¬ (Value.slice a1 c1 k1).ownBlock=some X∧ ¬ (Value.slice a1 c1 k1).ownBlock=some w.heap.size):=⟨(nX _ _ _ _ _ R1 (by decide)).1,(nX _ _ _ _ _ R1 (by decide)).2,(nX _ _ _ _ _ H1 (by decide)).1,(nX _ _ _ _ _ H1 (by decide)).2⟩
 have HD:Hid ((∀ b,(Value.slice o2 n2 q2).ownBlock=some b→ ¬ ((Value.slice o1 n1 q1).ownBlock=some b∨(Value.slice a1 c1 k1).ownBlock=some b∨b=X))∧ ∀ b,(Value.slice a2 c2 k2).ownBlock=some b→ ¬ ((Value.slice o1 n1 q1).ownBlock=some b∨(Value.slice a1 c1 k1).ownBlock=some b∨b=X)):=
  ⟨fun b h h'=>by
   rcases h' with h'| h'| h'
   ·exact qce R2 R1 (by decide) h h'
   ·exact qce R2 H1 (by decide) h h'
   ·exact HN2.out.1 (h'▸h),fun b h h'=>by
   rcases h' with h'| h'| h'
   ·exact qce H2 R1 (by decide) h h'
   ·exact qce H2 H1 (by decide) h h'
   ·exact HN2.out.2.2.1 (h'▸h)⟩
 have HS:Hid (¬ ((Value.slice o1 n1 q1).ownBlock=some w.heap.size∨(Value.slice a1 c1 k1).ownBlock=some w.heap.size∨w.heap.size=X)):=fun h=>by
  rcases h with h| h| h
  ·exact HN.out.2.1 h
  ·exact HN.out.2.2.2 h
  ·omega
 have HR2:Hid (wb.ownsRow 0 94 4 (.slice o2 n2 q2) n2 ys2):=KB.ownsRow R2 fun _ _=>id
 have HH2:Hid (wb.ownsRow 0 92 1 (.slice a2 c2 k2) c2 xs2):=KB.ownsRow H2 fun _ _=>id
 have HBX:Hid (wb.heap[X]? =some (.cells #[v0,.slice a1 c1 k1,.slice a2 c2 k2,v3] 37 (0,0))):=hbx'
 have HBS:Hid (wb.heap[w.heap.size]? =some (.cells #[.int .i64 tm,.slice o1 n1 q1,.slice o2 n2 q2,.int .i64 wt] 99 (0,0))):=bs0
 have HKB:Hid (Below w.heap.size w wb):=hbb
 have R:wb.ownsRow 0 91 5 (.slice o1 n1 q1) n1 ys1:=KB.ownsRow R1 fun _ _=>id
 have H0:wb.ownsRow 0 89 1 (.slice a1 c1 k1) c1 xs1:=KB.ownsRow H1 fun _ _=>id
 have x0:wb.cell? ⟨X,1,none⟩=some (.slice a1 c1 k1):=by rw [ql hbx'];rfl
 have s0:wb.cell? ⟨w.heap.size,1,none⟩=some (.slice o1 n1 q1):=by rw [ql bs0];rfl
 have fX:wb.frozen? ⟨X,1,none⟩=false:=qp hbx'
 have x2:w.cell? ⟨X,1,none⟩=some (.slice a1 c1 k1):=by rw [ql hbx];rfl
 clear hbx hbx' bs0 R1 R2 H1 H2 nX hbb KB
 go_enter Tryz.func36,Tryz.ntmps36
 go_upto_region 1 with fail
 rw [← hwb]
 clear hwb x2
 obtain ⟨w0,hw0⟩: ∃ V,V=wb.alloc (.cells #[.string ⟨#[]⟩,.int .i64 0,.int .i64 0,.int .i64 0,.int .i64 (-1 - (c1:Int))] 91):=⟨_,rfl⟩
 have hb0:Below wb.heap.size wb w0:=by rw [hw0];exact qi _ _
 have lz:wb.heap.size < w0.heap.size:=by rw [hw0];simp
 have bm:w0.heap[wb.heap.size]? =some (.cells #[.string ⟨#[]⟩,.int .i64 0,.int .i64 0,.int .i64 0,.int .i64 (-1 - (c1:Int))] 91 (0,0)):=by rw [hw0];exact qm _ _
 have m0:w0.cell? ⟨wb.heap.size,0,none⟩=some (.string ⟨#[]⟩):=by rw [ql bm];rfl
 have m1:w0.cell? ⟨wb.heap.size,1,none⟩=some (.int .i64 0):=by rw [ql bm];rfl
 have m2:w0.cell? ⟨wb.heap.size,2,none⟩=some (.int .i64 0):=by rw [ql bm];rfl
 have m3:w0.cell? ⟨wb.heap.size,3,none⟩=some (.int .i64 0):=by rw [ql bm];rfl
 have m4:w0.cell? ⟨wb.heap.size,4,none⟩=some (.int .i64 (-1 - (c1:Int))):=by rw [ql bm];rfl
 have y0:w0.cell? ⟨X,1,none⟩=some (.slice a1 c1 k1):=(hb0.cell (p:=⟨X,1,none⟩) lX).trans x0
 have s1:w0.cell? ⟨w.heap.size,1,none⟩=some (.slice o1 n1 q1):=(hb0.cell (p:=⟨w.heap.size,1,none⟩) lS).trans s0
 have fX0:w0.frozen? ⟨X,1,none⟩=false:=(hb0.frozen (p:=⟨X,1,none⟩) lX).trans fX
 have HF1:Hid (qdn w0 91 [.string ⟨#[]⟩,.int .i64 0,.int .i64 0,.int .i64 0,.int .i64 (-1 - (c1:Int))] (.slice o1 n1 q1) n1 0):=(qdn.start R).kept (Kept.of_below (F:=qq) hb0) fun _ _=>id
 have HRlt:Hid (∀ b,(Value.slice o1 n1 q1).ownBlock=some b→b < wb.heap.size):=fun b h=>(R.lt b h).2
 have HVlt:Hid (∀ b,(Value.slice a1 c1 k1).ownBlock=some b→b < wb.heap.size):=fun b h=>(H0.lt b h).2
 have HRv:Hid (∀ b,(Value.slice a1 c1 k1).ownBlock=some b→(Value.slice o1 n1 q1).ownBlock≠some b):=fun b h h'=>qce H0 R (by decide) h h'
 have HO:Hid (∀ u∈([(.string ⟨#[]⟩:Value),(.int .i64 0:Value),(.int .i64 0:Value),(.int .i64 0:Value),(.int .i64 (-1 - (c1:Int)):Value)]:List Value),u.oneCell'=true):=by
  intro u hu
  simp only [List.mem_cons,List.not_mem_nil,or_false] at hu
  rcases hu with rfl| rfl| rfl| rfl| rfl<;>rfl
 have HB0:Hid (w0.ownsRow 0 89 1 (.slice a1 c1 k1) c1 xs1):=(Kept.of_below (F:=qq) hb0).ownsRow H0 fun _ _=>id
 have HK0:Hid (Kept (fun b=>(Value.slice o1 n1 q1).ownBlock=some b) wb w0):=Kept.of_below hb0
 clear R H0 bm
 go_wp2
 rw [← hw0]
 clear hw0 hb0 x0 s0 fX
 go_loopw [5] (fun i wr=> ∃ k:Nat,k≤n1∧i= .int .i64 k∧Kept (fun b=>(Value.slice o1 n1 q1).ownBlock=some b) w0 wr∧qdn wr 91 [.string ⟨#[]⟩,.int .i64 0,.int .i64 0,.int .i64 0,.int .i64 (-1 - (c1:Int))] (.slice o1 n1 q1) n1 k) (fun i _=>n1 - (intOf i).toNat)
 case atStart=>exact ⟨0,Nat.zero_le _,rfl,Kept.refl _ _,HF1.out⟩
 case round=>
  clear HF1
  obtain ⟨k,hk,rfl,hkr,hfr⟩:=hrel
  have zX:X < wr.heap.size:=Nat.lt_of_lt_of_le (Nat.lt_trans lX lz) hkr.size
  have zS:w.heap.size < wr.heap.size:=Nat.lt_of_lt_of_le (Nat.lt_trans lS lz) hkr.size
  have zm:wb.heap.size < wr.heap.size:=Nat.lt_of_lt_of_le lz hkr.size
  have hmm:(Value.slice o1 n1 q1).ownBlock≠some wb.heap.size:=fun h=>Nat.lt_irrefl _ (HRlt.out _ h)
  have y0r:=(hkr.cell (p:=⟨X,1,none⟩) (Nat.lt_trans lX lz) HN.out.1).trans y0
  have sr:=(hkr.cell (p:=⟨w.heap.size,1,none⟩) (Nat.lt_trans lS lz) HN.out.2.1).trans s1
  have fzX:=(hkr.frozen (p:=⟨X,1,none⟩) (Nat.lt_trans lX lz) HN.out.1).trans fX0
  have m0r:=(hkr.cell (p:=⟨wb.heap.size,0,none⟩) lz hmm).trans m0
  have m1r:=(hkr.cell (p:=⟨wb.heap.size,1,none⟩) lz hmm).trans m1
  have m2r:=(hkr.cell (p:=⟨wb.heap.size,2,none⟩) lz hmm).trans m2
  have m3r:=(hkr.cell (p:=⟨wb.heap.size,3,none⟩) lz hmm).trans m3
  have m4r:=(hkr.cell (p:=⟨wb.heap.size,4,none⟩) lz hmm).trans m4
  by_cases hlt:k < n1
  ·obtain ⟨g,rfl,lg,fz⟩:=hfr.here (by omega)
   obtain ⟨u0,hu0⟩:=hfr.cell hlt (j:=0) (by simp)
   obtain ⟨u1,hu1⟩:=hfr.cell hlt (j:=1) (by simp)
   obtain ⟨u2,hu2⟩:=hfr.cell hlt (j:=2) (by simp)
   obtain ⟨u3,hu3⟩:=hfr.cell hlt (j:=3) (by simp)
   obtain ⟨u4,hu4⟩:=hfr.cell hlt (j:=4) (by simp)
   simp only [List.length_cons,List.length_nil,Nat.zero_add,Nat.reduceAdd,Nat.add_zero] at hu0 hu1 hu2 hu3 hu4
   have f0:=fz (k * 5)
   have f1:=fz (k * 5+1)
   have f2:=fz (k * 5+2)
   have f3:=fz (k * 5+3)
   have f4:=fz (k * 5+4)
   have HFr:Hid _:=hfr
   have HKr:Hid _:=hkr
   clear hfr hkr fz
   go_wp2
   go_roundw
   case rel=>exact ⟨k+1,by omega,by go_num,HKr.out.trans (qg1 g [.string ⟨#[]⟩,.int .i64 0,.int .i64 0,.int .i64 0,.int .i64 (-1 - (c1:Int))] (k * 5) wr) (fun i _ h=>by rw [h];rfl),HFr.out.set hlt⟩
   case measure=>simp [intOf];omega
  ·obtain rfl:k=n1:=by omega
   have R1:=hfr.done (by simp)
   have M0:MG 91 [.string ⟨#[]⟩,.int .i64 0,.int .i64 0,.int .i64 0,.int .i64 (-1 - (c1:Int))] wr (Value.slice o1 k q1).ownBlock wr [⟨o1,k,q1⟩]:=⟨Kept.refl _ _,fun x hx=>by rw [List.mem_singleton] at hx;subst hx;exact R1,fun x hx b hb=>by rw [List.mem_singleton] at hx;subst hx;exact .inl hb,fun b hb=>(R1.lt b hb).2⟩
   have hB:Hid (wr.ownsRow 0 89 1 (.slice a1 c1 k1) c1 xs1):=hkr.ownsRow (HB0.out) HRv.out
   have HKr:Hid _:=hkr
   have HM0:Hid _:=M0
   have HX:Hid ((Value.slice o1 k q1).ownBlock≠some X∧(Value.slice o1 k q1).ownBlock≠some wb.heap.size):=⟨HN.out.1,hmm⟩
   have HXS:Hid ((Value.slice o1 k q1).ownBlock≠some w.heap.size∧ ¬ (Value.slice a1 c1 k1).ownBlock=some w.heap.size):=⟨HN.out.2.1,HN.out.2.2.2⟩
   have HV:Hid ((∀ b,(Value.slice a1 c1 k1).ownBlock=some b→(Value.slice o1 k q1).ownBlock≠some b)∧ ¬ (Value.slice a1 c1 k1).ownBlock=some X∧ ¬ (Value.slice a1 c1 k1).ownBlock=some wb.heap.size):=⟨HRv.out,HN.out.2.2.1,fun h=>Nat.lt_irrefl _ (HVlt.out _ h)⟩
   have HS0:Hid (wr.drew.cell? ⟨X,1,none⟩=some (.slice a1 c1 k1)∧wr.drew.cell? ⟨wb.heap.size,0,none⟩=some (.string ⟨#[]⟩)∧wr.drew.cell? ⟨wb.heap.size,1,none⟩=some (.int .i64 0)∧wr.drew.cell? ⟨wb.heap.size,2,none⟩=some (.int .i64 0)∧wr.drew.cell? ⟨wb.heap.size,3,none⟩=some (.int .i64 0)∧wr.drew.cell? ⟨wb.heap.size,4,none⟩=some (.int .i64 (-1 - (c1:Int)))∧wr.drew.cell? ⟨w.heap.size,1,none⟩=some (.slice o1 k q1)):=⟨y0r,m0r,m1r,m2r,m3r,m4r,sr⟩
   clear hfr hkr R1 M0 hmm m0 m1 m2 m3 m4 y0 s1 fX0 hlt hk
   go_wp2
   go_cut [] from 27 to 55 (fun wx=>qeh 91 89 [.string ⟨#[]⟩,.int .i64 0,.int .i64 0,.int .i64 0,.int .i64 (-1 - (c1:Int))] (.slice o1 k q1) (.slice a1 c1 k1) c1 k xs1 X 1 wb wx)
   case first=>
    have hHeld:=HS0.out
    refine qfy 29 (fun w'=>w'.cell? ⟨X,1,none⟩=some (.slice a1 c1 k1)∧w'.cell? ⟨wb.heap.size,0,none⟩=some (.string ⟨#[]⟩)∧w'.cell? ⟨wb.heap.size,1,none⟩=some (.int .i64 0)∧w'.cell? ⟨wb.heap.size,2,none⟩=some (.int .i64 0)∧w'.cell? ⟨wb.heap.size,3,none⟩=some (.int .i64 0)∧w'.cell? ⟨wb.heap.size,4,none⟩=some (.int .i64 (-1 - (c1:Int)))∧w'.cell? ⟨w.heap.size,1,none⟩=some (.slice o1 k q1)) #[false,false,false,false,false,false,false,false,false,false,false,false,false,false,false,false,false,false,false,false,false,false,false,false,false,false,false,false,false,false] (by kernel_rfl) rfl ?_
    refine qhr HS0.out 0 (some 27) [] ?_
    simp only [Act.put,pt]
    refine qhr HS0.out 1 (some 28) [] ?_
    simp only [Act.put,pt]
    refine qhr HS0.out 2 (some 29) [] ?_
    simp only [Act.put,pt]
    refine qhr HS0.out 3 (some 30) [] ?_
    simp only [Act.put,pt]
    refine qhr HS0.out 4 (some 31) [] ?_
    simp only [Act.put,pt]
    refine qhr HS0.out 5 (some 32) [] ?_
    simp only [Act.put,pt]
    refine qhr HS0.out 6 (some 33) [] ?_
    simp only [Act.put,pt]
    refine qhr HS0.out 7 (some 34) [] ?_
    simp only [Act.put,pt]
    refine qhr HS0.out 8 (some 35) [] ?_
    simp only [Act.put,pt]
    refine qhr HS0.out 9 (some 36) [] ?_
    simp only [Act.put,pt]
    refine qhr HS0.out 12 (some 39) [] ?_
    simp only [Act.put,pt]
    refine qhr HS0.out 13 (some 40) [] ?_
    simp only [Act.put,pt]
    refine qhr HS0.out 14 (some 41) [] ?_
    simp only [Act.put,pt]
    refine qhr HS0.out 15 (some 42) [] ?_
    simp only [Act.put,pt]
    refine qhr HS0.out 18 (some 45) [] ?_
    simp only [Act.put,pt]
    refine qhr HS0.out 19 (some 46) [] ?_
    simp only [Act.put,pt]
    refine qhr HS0.out 20 (some 47) [] ?_
    simp only [Act.put,pt]
    refine qhr HS0.out 21 (some 48) [] ?_
    simp only [Act.put,pt]
    refine qhr HS0.out 22 (some 49) [] ?_
    simp only [Act.put,pt]
    have KS: ∀ W,Kept (fun b=>(Value.slice o1 k q1).ownBlock=some b∨(Value.slice a1 c1 k1).ownBlock=some b) wr W→(fun w'=>w'.cell? ⟨X,1,none⟩=some (.slice a1 c1 k1)∧w'.cell? ⟨wb.heap.size,0,none⟩=some (.string ⟨#[]⟩)∧w'.cell? ⟨wb.heap.size,1,none⟩=some (.int .i64 0)∧w'.cell? ⟨wb.heap.size,2,none⟩=some (.int .i64 0)∧w'.cell? ⟨wb.heap.size,3,none⟩=some (.int .i64 0)∧w'.cell? ⟨wb.heap.size,4,none⟩=some (.int .i64 (-1 - (c1:Int)))∧w'.cell? ⟨w.heap.size,1,none⟩=some (.slice o1 k q1)) W:=fun W hk=>⟨(hk.cell (p:=⟨X,1,none⟩) zX (fun h=>h.elim HX.out.1 HV.out.2.1)).trans y0r,(hk.cell (p:=⟨wb.heap.size,0,none⟩) zm (fun h=>h.elim HX.out.2 HV.out.2.2)).trans m0r,(hk.cell (p:=⟨wb.heap.size,1,none⟩) zm (fun h=>h.elim HX.out.2 HV.out.2.2)).trans m1r,(hk.cell (p:=⟨wb.heap.size,2,none⟩) zm (fun h=>h.elim HX.out.2 HV.out.2.2)).trans m2r,(hk.cell (p:=⟨wb.heap.size,3,none⟩) zm (fun h=>h.elim HX.out.2 HV.out.2.2)).trans m3r,(hk.cell (p:=⟨wb.heap.size,4,none⟩) zm (fun h=>h.elim HX.out.2 HV.out.2.2)).trans m4r,(hk.cell (p:=⟨w.heap.size,1,none⟩) zS (fun h=>h.elim HXS.out.1 HXS.out.2)).trans sr⟩
    have HKS:Hid _:=KS;clear KS hHeld
    refine keep_draw (L:= #[true,true,true,true,true,true,true,true,true,true,false,false,true,true,true,true,false,false,true,true,true,true,true,false,false,false,false,false,false,false]) (Lend:= #[true,true,true,true,true,true,true,true,true,true,true,true,true,true,true,true,true,true,true,true,true,true,true,true,true,true,true,false,false,false]) (mk:= [.string ⟨#[]⟩,.int .i64 0,.int .i64 0,.int .i64 0,.int .i64 (-1 - (c1:Int))]) (e:=91) (te:=91) (le:=89) (tle:=89) (tr:=89) (tl:=33) (oo:=o1) (k:=k) (oc:=q1) (ax:=a1) (c:=c1) (kx:=k1) 10 16 23 25 11 17 24 26 37 43 50 52 38 44 51 53 35 40 46 31 rfl rfl rfl rfl rfl rfl rfl rfl ⟨rfl,rfl⟩ ⟨rfl,rfl⟩ ⟨rfl,rfl⟩ ⟨rfl,rfl⟩ ⟨rfl,rfl⟩ ⟨rfl,rfl⟩ ⟨rfl,rfl⟩ ⟨rfl,rfl⟩ (by kernel_rfl) (by decide) (by decide) (by decide) (fun a W hj=>by (have h36:a.eval (.tmp 36)= .agg #[.string ⟨#[]⟩,.int .i64 0,.int .i64 0,.int .i64 0,.int .i64 (-1 - (c1:Int))]:=hj 36 (by decide));refine qdg rfl Tryz.underlying89 infoUT (by decide) (by decide) ?_;simp only [List.map_toArray,List.map_cons,List.map_nil,h36];kernel_rfl) (fun a W hj=>by (have h41:a.eval (.tmp 41)= .agg #[.string ⟨#[]⟩,.int .i64 0,.int .i64 0,.int .i64 0,.int .i64 (-1 - (c1:Int))]:=hj 41 (by decide);have h42:a.eval (.tmp 42)= .agg #[.string ⟨#[]⟩,.int .i64 0,.int .i64 0,.int .i64 0,.int .i64 (-1 - (c1:Int))]:=hj 42 (by decide));refine qdg rfl Tryz.underlying89 infoUT (by decide) (by decide) ?_;simp only [List.map_toArray,List.map_cons,List.map_nil,h41,h42];kernel_rfl) (fun a W hj=>by (have h47:a.eval (.tmp 47)= .agg #[.string ⟨#[]⟩,.int .i64 0,.int .i64 0,.int .i64 0,.int .i64 (-1 - (c1:Int))]:=hj 47 (by decide);have h48:a.eval (.tmp 48)= .agg #[.string ⟨#[]⟩,.int .i64 0,.int .i64 0,.int .i64 0,.int .i64 (-1 - (c1:Int))]:=hj 48 (by decide);have h49:a.eval (.tmp 49)= .agg #[.string ⟨#[]⟩,.int .i64 0,.int .i64 0,.int .i64 0,.int .i64 (-1 - (c1:Int))]:=hj 49 (by decide));refine qdg rfl Tryz.underlying89 infoUT (by decide) (by decide) ?_;simp only [List.map_toArray,List.map_cons,List.map_nil,h47,h48,h49];kernel_rfl) (fun a W qq1 qq2 qq3 nn1 nn2 nn3 mm1 mm2 mm3 hj f1 f2 f3=>by (have h33:a.eval (.tmp 33)= .slice o1 k q1:=hj 33 (by decide));refine qdg rfl Tryz.underlying33 infoSUT (by decide) (by decide) ?_;simp only [List.map_toArray,List.map_cons,List.map_nil,h33,f1,f2,f3];kernel_rfl) rfl rfl rfl rfl rfl rfl rfl rfl Tryz.underlying89 infoUT rfl (by decide) (by simp) HO.out Tryz.underlying33 infoSUT rfl (by omega) (by omega) hB.out HV.out.1 HM0.out.drew HKS.out (by kernel_rfl) (by kernel_rfl) (by kernel_rfl) (by kernel_rfl) (by kernel_rfl) (by kernel_rfl) (by kernel_rfl) (by kernel_rfl) (by kernel_rfl) (by kernel_rfl) (by kernel_rfl) (by kernel_rfl) (by kernel_rfl) (by kernel_rfl) (by kernel_rfl) (by kernel_rfl) (by kernel_rfl) ?_
    intro B1 B2 B3 B4 ao1 cp1 ao2 cp2 ao3 cp3 ao4 cp4 W3 W4 ob M3 hk4 R4 f4 K4
    have fz4:=(K4.frozen (p:=⟨X,1,none⟩) zX (fun h=>h.elim HX.out.1 HV.out.2.1)).trans fzX
    have HS4:=HKS.out _ K4
    have zW:=K4.size
    have HM3:Hid _:=M3;have HK4:Hid _:=hk4;have HR4:Hid _:=R4;have HF4:Hid _:=f4;clear M3 hk4 R4 f4 K4
    simp only [act6,pO,Act.put,List.setIfInBounds_toArray,List.set_cons_zero,List.set_cons_succ]
    have hHeld:=HS4;(try dsimp only at hHeld)
    refine qhr HS4 27 (some 54) [28] ?_
    simp only [Act.put,pt]
    refine qhr HS4 28 (some 55) [] ?_
    simp only [Act.put,pt]
    (refine qaf _ [29] (by kernel_rfl) (by simp) ?_;refine qaa.cons rfl ?_ qaa.nil;intro o ho K hK;simp only [List.getElem?_toArray,List.getElem?_cons_succ,List.getElem?_cons_zero,Option.some.injEq] at ho;subst ho;go_simp;refine hK.out _ _ (fun h=>absurd rfl h) (fun _=> ?_);clear hK K;refine qfu (by kernel_rfl) ?_ _)
    all_goals (go_wp2;go_meet;exact keep_close rfl rfl rfl rfl HM3.out (HK0.out.trans HKr.out fun _ _ h=>h) HK4.out HR4.out HF4.out)
   case rest=>
    have HC1:Hid _:=hcut.before HKB.out
    obtain ⟨v',hbc⟩:=hcut.box HBX.out HN.out.1 HN.out.2.2.1
    have KC:=hcut.kept
    have R:=KC.ownsRow HR2.out HD.out.1
    have H0:=KC.ownsRow HH2.out HD.out.2
    have s0:wc.cell? ⟨w.heap.size,2,none⟩=some (.slice o2 n2 q2):=(KC.cell (p:=⟨w.heap.size,2,none⟩) lS HS.out).trans (by rw [ql HBS.out];rfl)
    have x0:wc.cell? ⟨X,2,none⟩=some (.slice a2 c2 k2):=by rw [ql hbc];rfl
    have fX:wc.frozen? ⟨X,2,none⟩=false:=qp hbc
    have lX:=Nat.lt_of_lt_of_le lX KC.size
    have lS:=Nat.lt_of_lt_of_le lS KC.size
    clear HX HXS HV HS0 HM0 hB HKr HO HB0 HK0 HRlt HVlt HRv y0r sr fzX m0r m1r m2r m3r m4r zX zS zm hcut KC hbc HN HR2 HH2 HBX HBS HD HS lz
    have HN:=HN2
    clear HN2
    obtain ⟨w0,hw0⟩: ∃ V,V=wc.alloc (.cells #[.string ⟨#[]⟩,.string ⟨#[]⟩,.bool false,.int .i64 (-1 - (c2:Int))] 94):=⟨_,rfl⟩
    have hb0:Below wc.heap.size wc w0:=by rw [hw0];exact qi _ _
    have lz:wc.heap.size < w0.heap.size:=by rw [hw0];simp
    have bm:w0.heap[wc.heap.size]? =some (.cells #[.string ⟨#[]⟩,.string ⟨#[]⟩,.bool false,.int .i64 (-1 - (c2:Int))] 94 (0,0)):=by rw [hw0];exact qm _ _
    have m0:w0.cell? ⟨wc.heap.size,0,none⟩=some (.string ⟨#[]⟩):=by rw [ql bm];rfl
    have m1:w0.cell? ⟨wc.heap.size,1,none⟩=some (.string ⟨#[]⟩):=by rw [ql bm];rfl
    have m2:w0.cell? ⟨wc.heap.size,2,none⟩=some (.bool false):=by rw [ql bm];rfl
    have m3:w0.cell? ⟨wc.heap.size,3,none⟩=some (.int .i64 (-1 - (c2:Int))):=by rw [ql bm];rfl
    have y0:w0.cell? ⟨X,2,none⟩=some (.slice a2 c2 k2):=(hb0.cell (p:=⟨X,2,none⟩) lX).trans x0
    have s1:w0.cell? ⟨w.heap.size,2,none⟩=some (.slice o2 n2 q2):=(hb0.cell (p:=⟨w.heap.size,2,none⟩) lS).trans s0
    have fX0:w0.frozen? ⟨X,2,none⟩=false:=(hb0.frozen (p:=⟨X,2,none⟩) lX).trans fX
    have HF1:Hid (qdn w0 94 [.string ⟨#[]⟩,.string ⟨#[]⟩,.bool false,.int .i64 (-1 - (c2:Int))] (.slice o2 n2 q2) n2 0):=(qdn.start R).kept (Kept.of_below (F:=qq) hb0) fun _ _=>id
    have HRlt:Hid (∀ b,(Value.slice o2 n2 q2).ownBlock=some b→b < wc.heap.size):=fun b h=>(R.lt b h).2
    have HVlt:Hid (∀ b,(Value.slice a2 c2 k2).ownBlock=some b→b < wc.heap.size):=fun b h=>(H0.lt b h).2
    have HRv:Hid (∀ b,(Value.slice a2 c2 k2).ownBlock=some b→(Value.slice o2 n2 q2).ownBlock≠some b):=fun b h h'=>qce H0 R (by decide) h h'
    have HO:Hid (∀ u∈([(.string ⟨#[]⟩:Value),(.string ⟨#[]⟩:Value),(.bool false:Value),(.int .i64 (-1 - (c2:Int)):Value)]:List Value),u.oneCell'=true):=by
     intro u hu
     simp only [List.mem_cons,List.not_mem_nil,or_false] at hu
     rcases hu with rfl| rfl| rfl| rfl<;>rfl
    have HB0:Hid (w0.ownsRow 0 92 1 (.slice a2 c2 k2) c2 xs2):=(Kept.of_below (F:=qq) hb0).ownsRow H0 fun _ _=>id
    have HK0:Hid (Kept (fun b=>(Value.slice o2 n2 q2).ownBlock=some b) wc w0):=Kept.of_below hb0
    clear R H0 bm
    go_wp2
    rw [← hw0]
    clear hw0 hb0 x0 s0 fX
    go_loopw [7] (fun i wr=> ∃ k:Nat,k≤n2∧i= .int .i64 k∧Kept (fun b=>(Value.slice o2 n2 q2).ownBlock=some b) w0 wr∧qdn wr 94 [.string ⟨#[]⟩,.string ⟨#[]⟩,.bool false,.int .i64 (-1 - (c2:Int))] (.slice o2 n2 q2) n2 k) (fun i _=>n2 - (intOf i).toNat)
    case atStart=>exact ⟨0,Nat.zero_le _,rfl,Kept.refl _ _,HF1.out⟩
    case round=>
     clear HF1
     obtain ⟨k,hk,rfl,hkr,hfr⟩:=hrel
     have zX:X < wr.heap.size:=Nat.lt_of_lt_of_le (Nat.lt_trans lX lz) hkr.size
     have zS:w.heap.size < wr.heap.size:=Nat.lt_of_lt_of_le (Nat.lt_trans lS lz) hkr.size
     have zm:wc.heap.size < wr.heap.size:=Nat.lt_of_lt_of_le lz hkr.size
     have hmm:(Value.slice o2 n2 q2).ownBlock≠some wc.heap.size:=fun h=>Nat.lt_irrefl _ (HRlt.out _ h)
     have y0r:=(hkr.cell (p:=⟨X,2,none⟩) (Nat.lt_trans lX lz) HN.out.1).trans y0
     have sr:=(hkr.cell (p:=⟨w.heap.size,2,none⟩) (Nat.lt_trans lS lz) HN.out.2.1).trans s1
     have fzX:=(hkr.frozen (p:=⟨X,2,none⟩) (Nat.lt_trans lX lz) HN.out.1).trans fX0
     have m0r:=(hkr.cell (p:=⟨wc.heap.size,0,none⟩) lz hmm).trans m0
     have m1r:=(hkr.cell (p:=⟨wc.heap.size,1,none⟩) lz hmm).trans m1
     have m2r:=(hkr.cell (p:=⟨wc.heap.size,2,none⟩) lz hmm).trans m2
     have m3r:=(hkr.cell (p:=⟨wc.heap.size,3,none⟩) lz hmm).trans m3
     by_cases hlt:k < n2
     ·obtain ⟨g,rfl,lg,fz⟩:=hfr.here (by omega)
      obtain ⟨u0,hu0⟩:=hfr.cell hlt (j:=0) (by simp)
      obtain ⟨u1,hu1⟩:=hfr.cell hlt (j:=1) (by simp)
      obtain ⟨u2,hu2⟩:=hfr.cell hlt (j:=2) (by simp)
      obtain ⟨u3,hu3⟩:=hfr.cell hlt (j:=3) (by simp)
      simp only [List.length_cons,List.length_nil,Nat.zero_add,Nat.reduceAdd,Nat.add_zero] at hu0 hu1 hu2 hu3
      have f0:=fz (k * 4)
      have f1:=fz (k * 4+1)
      have f2:=fz (k * 4+2)
      have f3:=fz (k * 4+3)
      have HFr:Hid _:=hfr
      have HKr:Hid _:=hkr
      clear hfr hkr fz
      go_wp2
      go_roundw
      case rel=>exact ⟨k+1,by omega,by go_num,HKr.out.trans (qg1 g [.string ⟨#[]⟩,.string ⟨#[]⟩,.bool false,.int .i64 (-1 - (c2:Int))] (k * 4) wr) (fun i _ h=>by rw [h];rfl),HFr.out.set hlt⟩
      case measure=>simp [intOf];omega
     ·obtain rfl:k=n2:=by omega
      have R1:=hfr.done (by simp)
      have M0:MG 94 [.string ⟨#[]⟩,.string ⟨#[]⟩,.bool false,.int .i64 (-1 - (c2:Int))] wr (Value.slice o2 k q2).ownBlock wr [⟨o2,k,q2⟩]:=⟨Kept.refl _ _,fun x hx=>by rw [List.mem_singleton] at hx;subst hx;exact R1,fun x hx b hb=>by rw [List.mem_singleton] at hx;subst hx;exact .inl hb,fun b hb=>(R1.lt b hb).2⟩
      have hB:Hid (wr.ownsRow 0 92 1 (.slice a2 c2 k2) c2 xs2):=hkr.ownsRow (HB0.out) HRv.out
      have HKr:Hid _:=hkr
      have HM0:Hid _:=M0
      have HX:Hid ((Value.slice o2 k q2).ownBlock≠some X∧(Value.slice o2 k q2).ownBlock≠some wc.heap.size):=⟨HN.out.1,hmm⟩
      have HXS:Hid ((Value.slice o2 k q2).ownBlock≠some w.heap.size∧ ¬ (Value.slice a2 c2 k2).ownBlock=some w.heap.size):=⟨HN.out.2.1,HN.out.2.2.2⟩
      have HV:Hid ((∀ b,(Value.slice a2 c2 k2).ownBlock=some b→(Value.slice o2 k q2).ownBlock≠some b)∧ ¬ (Value.slice a2 c2 k2).ownBlock=some X∧ ¬ (Value.slice a2 c2 k2).ownBlock=some wc.heap.size):=⟨HRv.out,HN.out.2.2.1,fun h=>Nat.lt_irrefl _ (HVlt.out _ h)⟩
      have HS0:Hid (wr.drew.cell? ⟨X,2,none⟩=some (.slice a2 c2 k2)∧wr.drew.cell? ⟨wc.heap.size,0,none⟩=some (.string ⟨#[]⟩)∧wr.drew.cell? ⟨wc.heap.size,1,none⟩=some (.string ⟨#[]⟩)∧wr.drew.cell? ⟨wc.heap.size,2,none⟩=some (.bool false)∧wr.drew.cell? ⟨wc.heap.size,3,none⟩=some (.int .i64 (-1 - (c2:Int)))∧wr.drew.cell? ⟨w.heap.size,2,none⟩=some (.slice o2 k q2)):=⟨y0r,m0r,m1r,m2r,m3r,sr⟩
      clear hfr hkr R1 M0 hmm m0 m1 m2 m3 y0 s1 fX0 hlt hk
      go_wp2
      have hHeld:=HS0.out
      refine qfy 29 (fun w'=>w'.cell? ⟨X,2,none⟩=some (.slice a2 c2 k2)∧w'.cell? ⟨wc.heap.size,0,none⟩=some (.string ⟨#[]⟩)∧w'.cell? ⟨wc.heap.size,1,none⟩=some (.string ⟨#[]⟩)∧w'.cell? ⟨wc.heap.size,2,none⟩=some (.bool false)∧w'.cell? ⟨wc.heap.size,3,none⟩=some (.int .i64 (-1 - (c2:Int)))∧w'.cell? ⟨w.heap.size,2,none⟩=some (.slice o2 k q2)) #[false,false,false,false,false,false,false,false,false,false,false,false,false,false,false,false,false,false,false,false,false,false,false,false,false,false,false,false,false,false] (by kernel_rfl) rfl ?_
      refine qhr HS0.out 0 (some 75) [] ?_
      simp only [Act.put,pt]
      refine qhr HS0.out 1 (some 76) [] ?_
      simp only [Act.put,pt]
      refine qhr HS0.out 2 (some 77) [] ?_
      simp only [Act.put,pt]
      refine qhr HS0.out 3 (some 78) [] ?_
      simp only [Act.put,pt]
      refine qhr HS0.out 4 (some 79) [] ?_
      simp only [Act.put,pt]
      refine qhr HS0.out 5 (some 80) [] ?_
      simp only [Act.put,pt]
      refine qhr HS0.out 6 (some 81) [] ?_
      simp only [Act.put,pt]
      refine qhr HS0.out 7 (some 82) [] ?_
      simp only [Act.put,pt]
      refine qhr HS0.out 8 (some 83) [] ?_
      simp only [Act.put,pt]
      refine qhr HS0.out 9 (some 84) [] ?_
      simp only [Act.put,pt]
      refine qhr HS0.out 12 (some 87) [] ?_
      simp only [Act.put,pt]
      refine qhr HS0.out 13 (some 88) [] ?_
      simp only [Act.put,pt]
      refine qhr HS0.out 14 (some 89) [] ?_
      simp only [Act.put,pt]
      refine qhr HS0.out 15 (some 90) [] ?_
      simp only [Act.put,pt]
      refine qhr HS0.out 18 (some 93) [] ?_
      simp only [Act.put,pt]
      refine qhr HS0.out 19 (some 94) [] ?_
      simp only [Act.put,pt]
      refine qhr HS0.out 20 (some 95) [] ?_
      simp only [Act.put,pt]
      refine qhr HS0.out 21 (some 96) [] ?_
      simp only [Act.put,pt]
      refine qhr HS0.out 22 (some 97) [] ?_
      simp only [Act.put,pt]
      have KS: ∀ W,Kept (fun b=>(Value.slice o2 k q2).ownBlock=some b∨(Value.slice a2 c2 k2).ownBlock=some b) wr W→(fun w'=>w'.cell? ⟨X,2,none⟩=some (.slice a2 c2 k2)∧w'.cell? ⟨wc.heap.size,0,none⟩=some (.string ⟨#[]⟩)∧w'.cell? ⟨wc.heap.size,1,none⟩=some (.string ⟨#[]⟩)∧w'.cell? ⟨wc.heap.size,2,none⟩=some (.bool false)∧w'.cell? ⟨wc.heap.size,3,none⟩=some (.int .i64 (-1 - (c2:Int)))∧w'.cell? ⟨w.heap.size,2,none⟩=some (.slice o2 k q2)) W:=fun W hk=>⟨(hk.cell (p:=⟨X,2,none⟩) zX (fun h=>h.elim HX.out.1 HV.out.2.1)).trans y0r,(hk.cell (p:=⟨wc.heap.size,0,none⟩) zm (fun h=>h.elim HX.out.2 HV.out.2.2)).trans m0r,(hk.cell (p:=⟨wc.heap.size,1,none⟩) zm (fun h=>h.elim HX.out.2 HV.out.2.2)).trans m1r,(hk.cell (p:=⟨wc.heap.size,2,none⟩) zm (fun h=>h.elim HX.out.2 HV.out.2.2)).trans m2r,(hk.cell (p:=⟨wc.heap.size,3,none⟩) zm (fun h=>h.elim HX.out.2 HV.out.2.2)).trans m3r,(hk.cell (p:=⟨w.heap.size,2,none⟩) zS (fun h=>h.elim HXS.out.1 HXS.out.2)).trans sr⟩
      have HKS:Hid _:=KS;clear KS hHeld
      refine keep_draw (L:= #[true,true,true,true,true,true,true,true,true,true,false,false,true,true,true,true,false,false,true,true,true,true,true,false,false,false,false,false,false,false]) (Lend:= #[true,true,true,true,true,true,true,true,true,true,true,true,true,true,true,true,true,true,true,true,true,true,true,true,true,true,true,false,false,false]) (mk:= [.string ⟨#[]⟩,.string ⟨#[]⟩,.bool false,.int .i64 (-1 - (c2:Int))]) (e:=94) (te:=94) (le:=92) (tle:=92) (tr:=92) (tl:=34) (oo:=o2) (k:=k) (oc:=q2) (ax:=a2) (c:=c2) (kx:=k2) 10 16 23 25 11 17 24 26 85 91 98 100 86 92 99 101 83 88 94 79 rfl rfl rfl rfl rfl rfl rfl rfl ⟨rfl,rfl⟩ ⟨rfl,rfl⟩ ⟨rfl,rfl⟩ ⟨rfl,rfl⟩ ⟨rfl,rfl⟩ ⟨rfl,rfl⟩ ⟨rfl,rfl⟩ ⟨rfl,rfl⟩ (by kernel_rfl) (by decide) (by decide) (by decide) (fun a W hj=>by (have h84:a.eval (.tmp 84)= .agg #[.string ⟨#[]⟩,.string ⟨#[]⟩,.bool false,.int .i64 (-1 - (c2:Int))]:=hj 84 (by decide));refine qdg rfl Tryz.underlying92 infoLI (by decide) (by decide) ?_;simp only [List.map_toArray,List.map_cons,List.map_nil,h84];kernel_rfl) (fun a W hj=>by (have h89:a.eval (.tmp 89)= .agg #[.string ⟨#[]⟩,.string ⟨#[]⟩,.bool false,.int .i64 (-1 - (c2:Int))]:=hj 89 (by decide);have h90:a.eval (.tmp 90)= .agg #[.string ⟨#[]⟩,.string ⟨#[]⟩,.bool false,.int .i64 (-1 - (c2:Int))]:=hj 90 (by decide));refine qdg rfl Tryz.underlying92 infoLI (by decide) (by decide) ?_;simp only [List.map_toArray,List.map_cons,List.map_nil,h89,h90];kernel_rfl) (fun a W hj=>by (have h95:a.eval (.tmp 95)= .agg #[.string ⟨#[]⟩,.string ⟨#[]⟩,.bool false,.int .i64 (-1 - (c2:Int))]:=hj 95 (by decide);have h96:a.eval (.tmp 96)= .agg #[.string ⟨#[]⟩,.string ⟨#[]⟩,.bool false,.int .i64 (-1 - (c2:Int))]:=hj 96 (by decide);have h97:a.eval (.tmp 97)= .agg #[.string ⟨#[]⟩,.string ⟨#[]⟩,.bool false,.int .i64 (-1 - (c2:Int))]:=hj 97 (by decide));refine qdg rfl Tryz.underlying92 infoLI (by decide) (by decide) ?_;simp only [List.map_toArray,List.map_cons,List.map_nil,h95,h96,h97];kernel_rfl) (fun a W qq1 qq2 qq3 nn1 nn2 nn3 mm1 mm2 mm3 hj f1 f2 f3=>by (have h81:a.eval (.tmp 81)= .slice o2 k q2:=hj 81 (by decide));refine qdg rfl Tryz.underlying34 infoSLI (by decide) (by decide) ?_;simp only [List.map_toArray,List.map_cons,List.map_nil,h81,f1,f2,f3];kernel_rfl) rfl rfl rfl rfl rfl rfl rfl rfl Tryz.underlying92 infoLI rfl (by decide) (by simp) HO.out Tryz.underlying34 infoSLI rfl (by omega) (by omega) hB.out HV.out.1 HM0.out.drew HKS.out (by kernel_rfl) (by kernel_rfl) (by kernel_rfl) (by kernel_rfl) (by kernel_rfl) (by kernel_rfl) (by kernel_rfl) (by kernel_rfl) (by kernel_rfl) (by kernel_rfl) (by kernel_rfl) (by kernel_rfl) (by kernel_rfl) (by kernel_rfl) (by kernel_rfl) (by kernel_rfl) (by kernel_rfl) ?_
      intro B1 B2 B3 B4 ao1 cp1 ao2 cp2 ao3 cp3 ao4 cp4 W3 W4 ob M3 hk4 R4 f4 K4
      have fz4:=(K4.frozen (p:=⟨X,2,none⟩) zX (fun h=>h.elim HX.out.1 HV.out.2.1)).trans fzX
      have HS4:=HKS.out _ K4
      have zW:=K4.size
      have HM3:Hid _:=M3;have HK4:Hid _:=hk4;have HR4:Hid _:=R4;have HF4:Hid _:=f4;clear M3 hk4 R4 f4 K4
      simp only [act6,pO,Act.put,List.setIfInBounds_toArray,List.set_cons_zero,List.set_cons_succ]
      have hHeld:=HS4;(try dsimp only at hHeld)
      refine qhr HS4 27 (some 102) [28] ?_
      simp only [Act.put,pt]
      refine qhr HS4 28 (some 103) [] ?_
      simp only [Act.put,pt]
      (refine qaf _ [29] (by kernel_rfl) (by simp) ?_;refine qaa.cons rfl ?_ qaa.nil;intro o ho K hK;simp only [List.getElem?_toArray,List.getElem?_cons_succ,List.getElem?_cons_zero,Option.some.injEq] at ho;subst ho;go_simp;refine hK.out _ _ (fun h=>absurd rfl h) (fun _=> ?_);clear hK K;refine qfu (by kernel_rfl) ?_ _)
      all_goals ((try go_wp2);go_end0;exact ⟨rfl,wc,HC1.out,keep_close rfl rfl rfl rfl HM3.out (HK0.out.trans HKr.out fun _ _ h=>h) HK4.out HR4.out HF4.out⟩)
end
end Go.Proofs.YtchddaafibjmgaaGreat
