import Derived.Test.YtchddaafibjmgaaGreatMA8
set_option maxRecDepth 100000
set_option maxHeartbeats 20000000
namespace Go.Proofs.YtchddaafibjmgaaGreat
section
open Go.RowKit Go.Maps
section
variable {F:Nat→Prop} {w:World} {Y:Nat} {hd:Head} {g:Gh}
theorem reason0 (H:BMem F w Y hd g) (hfull:Full g) (hS:qg7 g) (s:ByteArray) (hs:s.size≤maxLen) (x:Value×qbb) (hx:getL g.NN (ky s)=some x) (p:PodD) (hok:p.ok w) (hpn: ∀ y∈ [p.n0,p.n1,p.n2],0≤y∧y≤1099511627776)
    (h1:qbg x.2.r0 x.2.r1 x.2.r2 (qt g.pods (ky s)).1 (qt g.pods (ky s)).2.1 (qt g.pods (ky s)).2.2 p.n0 p.n1 p.n2=false) (h2:(!(p.port==0)&&(qat g (ky s)).any fun q=>q.2.port==p.port)=false) (h3:qae p.select.L x.2.labels=true) (h4:qae x.2.taints p.bears.L=true) (h5:qbm g (ky s) (fun q=>qae p.near.L q.2.labels)=true) (h6:qbm g (ky s) (fun q=>qbv p.apart.L q.2.labels || qbv q.2.apart p.labels.L)=false) (hne:0 < p.near.L.length):
    Calls Tryz.prog 97 #[.pointer (some ⟨Y,0,none⟩),.string s,.agg p.cells] w fun e w'=>e= .returned (.int .i64 0)∧Below w.heap.size w w':=by
  have hx4:=H.cN
  have hx7:=H.cV
  have hY:=H.lt Y H.fy
  have hgx:=qar hx
  obtain ⟨l,t,u0,u1,u2,ao,cap,el,et,ol,ot,hu,hrow,lkN,lkV⟩:=H.lookNV hfull s hs hx
  have hub:=hS.used (ky s)
  rw [← hu] at hub h1
  dsimp only at hub
  have hrm:=hS.room _ hgx
  dsimp only at hrm
  have lkN0:=fun B=>lkN _ (qi w B).drew
  have lkV0:=fun B=>lkV _ (qi w B).drew
  have lkN1:=fun B o=>lkN _ (((qj (qi w B) (qi _ o)).drew))
  have lkV1:=fun B o=>lkV _ (((qj (qi w B) (qi _ o)).drew))
  have lkN2:=fun B o o'=>lkN _ (((qj (qj (qi w B) (qi _ o)) (qi _ o')).drew))
  have lkV2:=fun B o o'=>lkV _ (((qj (qj (qi w B) (qi _ o)) (qi _ o')).drew))
  have yN1:=fun B o=>((qj (qi w B) (qi _ o)).cell (p:=⟨Y,4,none⟩) hY).trans hx4
  have yN2:=fun B o o'=>((qj (qj (qi w B) (qi _ o)) (qi _ o')).cell (p:=⟨Y,4,none⟩) hY).trans hx4
  have yV1:=fun B o=>((qj (qi w B) (qi _ o)).cell (p:=⟨Y,7,none⟩) hY).trans hx7
  have yV2:=fun B o o'=>((qj (qj (qi w B) (qi _ o)) (qi _ o')).cell (p:=⟨Y,7,none⟩) hY).trans hx7
  have hWA:=fun B o o'=>((qj (qj (qi w B) (qi _ o)) (qi _ o')).drew)
  have hzA: ∀ B o o',w.heap.size+1+1 < (((w.alloc B).alloc o).alloc o').drew.heap.size:=fun B o o'=>by simp
  have hzB: ∀ B o o',w.heap.size+1 < (((w.alloc B).alloc o).alloc o').drew.heap.size:=fun B o o'=>Nat.lt_of_succ_lt (hzA B o o')
  have hzC: ∀ B o o',w.heap.size < (((w.alloc B).alloc o).alloc o').drew.heap.size:=fun B o o'=>Nat.lt_of_succ_lt (hzB B o o')
  have c1:=fun W=>qdb x.2.r0 x.2.r1 x.2.r2 u0 u1 u2 p.n0 p.n1 p.n2 W (by
    simp only [List.mem_cons,List.not_mem_nil,or_false,forall_eq_or_imp,forall_eq] at hrm hpn ⊢
    omega) hub
  have c2:=fun W (hb:Below w.heap.size w W)=>qdc (w:=W) (F:=F) (qat g (ky s)) p.port ao cap (Nat.le_trans (qbp _) (by have:=hS.pods;omega)) ((Kept.of_below (F:=qq) hb).ownsRow hrow fun _ _=>id) fun q hq=>by
    obtain ⟨q',hq',rfl⟩:=qc0 hq
    exact (H.pp q' hq').below hb
  have c3:=fun W (hb:Below w.heap.size w W)=>(hok.2 p.select (by simp [PodD.lists])).fits ol hb
  have c4:=fun W (hb:Below w.heap.size w W)=>ot.fits (hok.2 p.bears (by simp [PodD.lists])) hb
  have c5:=fun W (hb:Below w.heap.size w W)=>qdd (H.below hb) hfull (by have:=hS.pods;omega) s hs p (hok.below hb)
  have c6:=fun W (hb:Below w.heap.size w W)=>qcq (H.below hb) hfull (by have:=hS.pods;omega) s hs p (hok.below hb)
  have hnl:=(hok.2 p.near (by simp [PodD.lists])).1
  unfold PodD.cells Lst.val at c5 c6
  unfold PodD.cells Lst.val
  dsimp only at h1
  rw [h1] at c1
  rw [h2] at c2
  rw [← el] at h3
  rw [h3] at c3
  rw [← et] at h4
  rw [h4] at c4
  rw [h5] at c5
  rw [h6] at c6
  have hne':(0:Int) < (p.near.L.length:Int):=by omega
  clear H hfull hS hx hok hpn hub hrm hu hrow ol ot el et lkN lkV hgx
  go_enter Tryz.func97,Tryz.ntmps97
  go_wp2
  go_region
  all_goals (go_wp2_with (first
      | (go_at_call 107;refine (c6 w5 hW5).mono ?_;rintro e w6 ⟨rfl,hb6⟩;have a6:=fun o=>hb6.cell (p:=⟨w.heap.size,o,none⟩) zzz5;have b6:=fun o=>hb6.cell (p:=⟨w.heap.size+1,o,none⟩) zz5;have d6:=fun o=>hb6.cell (p:=⟨w.heap.size+1+1,o,none⟩) z5;have z6:w.heap.size+1+1 < w6.heap.size:=Nat.lt_of_lt_of_le z5 hb6.size;have zz6:w.heap.size+1 < w6.heap.size:=(by omega);have zzz6:w.heap.size < w6.heap.size:=(by omega);have hW6:=qj hW5 hb6)
      | (go_at_call 106;refine (c5 w4 hW4).mono ?_;rintro e w5 ⟨rfl,hb5⟩;have a5:=fun o=>hb5.cell (p:=⟨w.heap.size,o,none⟩) zzz4;have b5:=fun o=>hb5.cell (p:=⟨w.heap.size+1,o,none⟩) zz4;have d5:=fun o=>hb5.cell (p:=⟨w.heap.size+1+1,o,none⟩) z4;have z5:w.heap.size+1+1 < w5.heap.size:=Nat.lt_of_lt_of_le z4 hb5.size;have zz5:w.heap.size+1 < w5.heap.size:=(by omega);have zzz5:w.heap.size < w5.heap.size:=(by omega);have hW5:=qj hW4 hb5)
      | (go_at_call_of 105 (Value.slice t.a t.L.length t.cap);refine (c4 w3 hW3).mono ?_;rintro e w4 ⟨rfl,hb4⟩;have a4:=fun o=>hb4.cell (p:=⟨w.heap.size,o,none⟩) zzz3;have b4:=fun o=>hb4.cell (p:=⟨w.heap.size+1,o,none⟩) zz3;have d4:=fun o=>hb4.cell (p:=⟨w.heap.size+1+1,o,none⟩) z3;have z4:w.heap.size+1+1 < w4.heap.size:=Nat.lt_of_lt_of_le z3 hb4.size;have zz4:w.heap.size+1 < w4.heap.size:=(by omega);have zzz4:w.heap.size < w4.heap.size:=(by omega);have hW4:=qj hW3 hb4)
      | (go_at_call_of 105 (Value.slice p.select.a p.select.L.length p.select.cap);refine (c3 w2 hW2).mono ?_;rintro e w3 ⟨rfl,hb3⟩;have a3:=fun o=>hb3.cell (p:=⟨w.heap.size,o,none⟩) zzz2;have b3:=fun o=>hb3.cell (p:=⟨w.heap.size+1,o,none⟩) zz2;have d3:=fun o=>hb3.cell (p:=⟨w.heap.size+1+1,o,none⟩) z2;have z3:w.heap.size+1+1 < w3.heap.size:=Nat.lt_of_lt_of_le z2 hb3.size;have zz3:w.heap.size+1 < w3.heap.size:=(by omega);have zzz3:w.heap.size < w3.heap.size:=(by omega);have hW3:=qj hW2 hb3)
      | (go_at_call 104;refine (c2 w1 hW1).mono ?_;rintro e w2 ⟨rfl,hb2⟩;have a2:=fun o=>hb2.cell (p:=⟨w.heap.size,o,none⟩) zzz1;have b2:=fun o=>hb2.cell (p:=⟨w.heap.size+1,o,none⟩) zz1;have d2:=fun o=>hb2.cell (p:=⟨w.heap.size+1+1,o,none⟩) z1;have z2:w.heap.size+1+1 < w2.heap.size:=Nat.lt_of_lt_of_le z1 hb2.size;have zz2:w.heap.size+1 < w2.heap.size:=(by omega);have zzz2:w.heap.size < w2.heap.size:=(by omega);have hW2:=qj hW1 hb2)
      | (go_at_call 103;refine (c1 _).mono ?_;rintro e w1 ⟨rfl,hb1⟩;have a1:=fun o=>hb1.cell (p:=⟨w.heap.size,o,none⟩) (hzC _ _ _);have b1:=fun o=>hb1.cell (p:=⟨w.heap.size+1,o,none⟩) (hzB _ _ _);have d1:=fun o=>hb1.cell (p:=⟨w.heap.size+1+1,o,none⟩) (hzA _ _ _);have z1:w.heap.size+1+1 < w1.heap.size:=Nat.lt_of_lt_of_le (hzA _ _ _) hb1.size;have zz1:w.heap.size+1 < w1.heap.size:=(by omega);have zzz1:w.heap.size < w1.heap.size:=(by omega);have hW1:=qj (hWA _ _ _) hb1)))
  all_goals go_ret
  all_goals exact ⟨rfl,hW6⟩
end
end
section
open Go.RowKit Go.Maps
section
variable {F:Nat→Prop} {w:World} {Y:Nat} {hd:Head} {g:Gh}
theorem reason6n (H:BMem F w Y hd g) (hfull:Full g) (hS:qg7 g) (s:ByteArray) (hs:s.size≤maxLen) (x:Value×qbb) (hx:getL g.NN (ky s)=some x) (p:PodD) (hok:p.ok w) (hpn: ∀ y∈ [p.n0,p.n1,p.n2],0≤y∧y≤1099511627776)
    (h1:qbg x.2.r0 x.2.r1 x.2.r2 (qt g.pods (ky s)).1 (qt g.pods (ky s)).2.1 (qt g.pods (ky s)).2.2 p.n0 p.n1 p.n2=false) (h2:(!(p.port==0)&&(qat g (ky s)).any fun q=>q.2.port==p.port)=false) (h3:qae p.select.L x.2.labels=true) (h4:qae x.2.taints p.bears.L=true) (h6:qbm g (ky s) (fun q=>qbv p.apart.L q.2.labels || qbv q.2.apart p.labels.L)=true) (hne:p.near.L.length=0):
    Calls Tryz.prog 97 #[.pointer (some ⟨Y,0,none⟩),.string s,.agg p.cells] w fun e w'=>e= .returned (.int .i64 6)∧Below w.heap.size w w':=by
  have hx4:=H.cN
  have hx7:=H.cV
  have hY:=H.lt Y H.fy
  have hgx:=qar hx
  obtain ⟨l,t,u0,u1,u2,ao,cap,el,et,ol,ot,hu,hrow,lkN,lkV⟩:=H.lookNV hfull s hs hx
  have hub:=hS.used (ky s)
  rw [← hu] at hub h1
  dsimp only at hub
  have hrm:=hS.room _ hgx
  dsimp only at hrm
  have lkN0:=fun B=>lkN _ (qi w B).drew
  have lkV0:=fun B=>lkV _ (qi w B).drew
  have lkN1:=fun B o=>lkN _ (((qj (qi w B) (qi _ o)).drew))
  have lkV1:=fun B o=>lkV _ (((qj (qi w B) (qi _ o)).drew))
  have lkN2:=fun B o o'=>lkN _ (((qj (qj (qi w B) (qi _ o)) (qi _ o')).drew))
  have lkV2:=fun B o o'=>lkV _ (((qj (qj (qi w B) (qi _ o)) (qi _ o')).drew))
  have yN1:=fun B o=>((qj (qi w B) (qi _ o)).cell (p:=⟨Y,4,none⟩) hY).trans hx4
  have yN2:=fun B o o'=>((qj (qj (qi w B) (qi _ o)) (qi _ o')).cell (p:=⟨Y,4,none⟩) hY).trans hx4
  have yV1:=fun B o=>((qj (qi w B) (qi _ o)).cell (p:=⟨Y,7,none⟩) hY).trans hx7
  have yV2:=fun B o o'=>((qj (qj (qi w B) (qi _ o)) (qi _ o')).cell (p:=⟨Y,7,none⟩) hY).trans hx7
  have hWA:=fun B o o'=>((qj (qj (qi w B) (qi _ o)) (qi _ o')).drew)
  have hzA: ∀ B o o',w.heap.size+1+1 < (((w.alloc B).alloc o).alloc o').drew.heap.size:=fun B o o'=>by simp
  have hzB: ∀ B o o',w.heap.size+1 < (((w.alloc B).alloc o).alloc o').drew.heap.size:=fun B o o'=>Nat.lt_of_succ_lt (hzA B o o')
  have hzC: ∀ B o o',w.heap.size < (((w.alloc B).alloc o).alloc o').drew.heap.size:=fun B o o'=>Nat.lt_of_succ_lt (hzB B o o')
  have c1:=fun W=>qdb x.2.r0 x.2.r1 x.2.r2 u0 u1 u2 p.n0 p.n1 p.n2 W (by
    simp only [List.mem_cons,List.not_mem_nil,or_false,forall_eq_or_imp,forall_eq] at hrm hpn ⊢
    omega) hub
  have c2:=fun W (hb:Below w.heap.size w W)=>qdc (w:=W) (F:=F) (qat g (ky s)) p.port ao cap (Nat.le_trans (qbp _) (by have:=hS.pods;omega)) ((Kept.of_below (F:=qq) hb).ownsRow hrow fun _ _=>id) fun q hq=>by
    obtain ⟨q',hq',rfl⟩:=qc0 hq
    exact (H.pp q' hq').below hb
  have c3:=fun W (hb:Below w.heap.size w W)=>(hok.2 p.select (by simp [PodD.lists])).fits ol hb
  have c4:=fun W (hb:Below w.heap.size w W)=>ot.fits (hok.2 p.bears (by simp [PodD.lists])) hb
  have c5:=fun W (hb:Below w.heap.size w W)=>qdd (H.below hb) hfull (by have:=hS.pods;omega) s hs p (hok.below hb)
  have c6:=fun W (hb:Below w.heap.size w W)=>qcq (H.below hb) hfull (by have:=hS.pods;omega) s hs p (hok.below hb)
  have hnl:=(hok.2 p.near (by simp [PodD.lists])).1
  unfold PodD.cells Lst.val at c5 c6
  unfold PodD.cells Lst.val
  dsimp only at h1
  rw [h1] at c1
  rw [h2] at c2
  rw [← el] at h3
  rw [h3] at c3
  rw [← et] at h4
  rw [h4] at c4
  rw [h6] at c6
  have hne': ¬ (0:Int) < (p.near.L.length:Int):=by omega
  clear hne
  clear H hfull hS hx hok hpn hub hrm hu hrow ol ot el et lkN lkV hgx
  go_enter Tryz.func97,Tryz.ntmps97
  go_wp2
  go_region
  all_goals (go_wp2_with (first
      | (go_at_call 107;refine (c6 w4 hW4).mono ?_;rintro e w6 ⟨rfl,hb6⟩;have hW6:=qj hW4 hb6)
      | (go_at_call_of 105 (Value.slice t.a t.L.length t.cap);refine (c4 w3 hW3).mono ?_;rintro e w4 ⟨rfl,hb4⟩;have a4:=fun o=>hb4.cell (p:=⟨w.heap.size,o,none⟩) zzz3;have b4:=fun o=>hb4.cell (p:=⟨w.heap.size+1,o,none⟩) zz3;have d4:=fun o=>hb4.cell (p:=⟨w.heap.size+1+1,o,none⟩) z3;have z4:w.heap.size+1+1 < w4.heap.size:=Nat.lt_of_lt_of_le z3 hb4.size;have zz4:w.heap.size+1 < w4.heap.size:=(by omega);have zzz4:w.heap.size < w4.heap.size:=(by omega);have hW4:=qj hW3 hb4)
      | (go_at_call_of 105 (Value.slice p.select.a p.select.L.length p.select.cap);refine (c3 w2 hW2).mono ?_;rintro e w3 ⟨rfl,hb3⟩;have a3:=fun o=>hb3.cell (p:=⟨w.heap.size,o,none⟩) zzz2;have b3:=fun o=>hb3.cell (p:=⟨w.heap.size+1,o,none⟩) zz2;have d3:=fun o=>hb3.cell (p:=⟨w.heap.size+1+1,o,none⟩) z2;have z3:w.heap.size+1+1 < w3.heap.size:=Nat.lt_of_lt_of_le z2 hb3.size;have zz3:w.heap.size+1 < w3.heap.size:=(by omega);have zzz3:w.heap.size < w3.heap.size:=(by omega);have hW3:=qj hW2 hb3)
      | (go_at_call 104;refine (c2 w1 hW1).mono ?_;rintro e w2 ⟨rfl,hb2⟩;have a2:=fun o=>hb2.cell (p:=⟨w.heap.size,o,none⟩) zzz1;have b2:=fun o=>hb2.cell (p:=⟨w.heap.size+1,o,none⟩) zz1;have d2:=fun o=>hb2.cell (p:=⟨w.heap.size+1+1,o,none⟩) z1;have z2:w.heap.size+1+1 < w2.heap.size:=Nat.lt_of_lt_of_le z1 hb2.size;have zz2:w.heap.size+1 < w2.heap.size:=(by omega);have zzz2:w.heap.size < w2.heap.size:=(by omega);have hW2:=qj hW1 hb2)
      | (go_at_call 103;refine (c1 _).mono ?_;rintro e w1 ⟨rfl,hb1⟩;have a1:=fun o=>hb1.cell (p:=⟨w.heap.size,o,none⟩) (hzC _ _ _);have b1:=fun o=>hb1.cell (p:=⟨w.heap.size+1,o,none⟩) (hzB _ _ _);have d1:=fun o=>hb1.cell (p:=⟨w.heap.size+1+1,o,none⟩) (hzA _ _ _);have z1:w.heap.size+1+1 < w1.heap.size:=Nat.lt_of_lt_of_le (hzA _ _ _) hb1.size;have zz1:w.heap.size+1 < w1.heap.size:=(by omega);have zzz1:w.heap.size < w1.heap.size:=(by omega);have hW1:=qj (hWA _ _ _) hb1)))
  all_goals go_ret
  all_goals exact ⟨rfl,hW6⟩
end
end
section
open Go.RowKit Go.Maps
section
variable {F:Nat→Prop} {w:World} {Y:Nat} {hd:Head} {g:Gh}
theorem reason0n (H:BMem F w Y hd g) (hfull:Full g) (hS:qg7 g) (s:ByteArray) (hs:s.size≤maxLen) (x:Value×qbb) (hx:getL g.NN (ky s)=some x) (p:PodD) (hok:p.ok w) (hpn: ∀ y∈ [p.n0,p.n1,p.n2],0≤y∧y≤1099511627776)
    (h1:qbg x.2.r0 x.2.r1 x.2.r2 (qt g.pods (ky s)).1 (qt g.pods (ky s)).2.1 (qt g.pods (ky s)).2.2 p.n0 p.n1 p.n2=false) (h2:(!(p.port==0)&&(qat g (ky s)).any fun q=>q.2.port==p.port)=false) (h3:qae p.select.L x.2.labels=true) (h4:qae x.2.taints p.bears.L=true) (h6:qbm g (ky s) (fun q=>qbv p.apart.L q.2.labels || qbv q.2.apart p.labels.L)=false) (hne:p.near.L.length=0):
    Calls Tryz.prog 97 #[.pointer (some ⟨Y,0,none⟩),.string s,.agg p.cells] w fun e w'=>e= .returned (.int .i64 0)∧Below w.heap.size w w':=by
  have hx4:=H.cN
  have hx7:=H.cV
  have hY:=H.lt Y H.fy
  have hgx:=qar hx
  obtain ⟨l,t,u0,u1,u2,ao,cap,el,et,ol,ot,hu,hrow,lkN,lkV⟩:=H.lookNV hfull s hs hx
  have hub:=hS.used (ky s)
  rw [← hu] at hub h1
  dsimp only at hub
  have hrm:=hS.room _ hgx
  dsimp only at hrm
  have lkN0:=fun B=>lkN _ (qi w B).drew
  have lkV0:=fun B=>lkV _ (qi w B).drew
  have lkN1:=fun B o=>lkN _ (((qj (qi w B) (qi _ o)).drew))
  have lkV1:=fun B o=>lkV _ (((qj (qi w B) (qi _ o)).drew))
  have lkN2:=fun B o o'=>lkN _ (((qj (qj (qi w B) (qi _ o)) (qi _ o')).drew))
  have lkV2:=fun B o o'=>lkV _ (((qj (qj (qi w B) (qi _ o)) (qi _ o')).drew))
  have yN1:=fun B o=>((qj (qi w B) (qi _ o)).cell (p:=⟨Y,4,none⟩) hY).trans hx4
  have yN2:=fun B o o'=>((qj (qj (qi w B) (qi _ o)) (qi _ o')).cell (p:=⟨Y,4,none⟩) hY).trans hx4
  have yV1:=fun B o=>((qj (qi w B) (qi _ o)).cell (p:=⟨Y,7,none⟩) hY).trans hx7
  have yV2:=fun B o o'=>((qj (qj (qi w B) (qi _ o)) (qi _ o')).cell (p:=⟨Y,7,none⟩) hY).trans hx7
  have hWA:=fun B o o'=>((qj (qj (qi w B) (qi _ o)) (qi _ o')).drew)
  have hzA: ∀ B o o',w.heap.size+1+1 < (((w.alloc B).alloc o).alloc o').drew.heap.size:=fun B o o'=>by simp
  have hzB: ∀ B o o',w.heap.size+1 < (((w.alloc B).alloc o).alloc o').drew.heap.size:=fun B o o'=>Nat.lt_of_succ_lt (hzA B o o')
  have hzC: ∀ B o o',w.heap.size < (((w.alloc B).alloc o).alloc o').drew.heap.size:=fun B o o'=>Nat.lt_of_succ_lt (hzB B o o')
  have c1:=fun W=>qdb x.2.r0 x.2.r1 x.2.r2 u0 u1 u2 p.n0 p.n1 p.n2 W (by
    simp only [List.mem_cons,List.not_mem_nil,or_false,forall_eq_or_imp,forall_eq] at hrm hpn ⊢
    omega) hub
  have c2:=fun W (hb:Below w.heap.size w W)=>qdc (w:=W) (F:=F) (qat g (ky s)) p.port ao cap (Nat.le_trans (qbp _) (by have:=hS.pods;omega)) ((Kept.of_below (F:=qq) hb).ownsRow hrow fun _ _=>id) fun q hq=>by
    obtain ⟨q',hq',rfl⟩:=qc0 hq
    exact (H.pp q' hq').below hb
  have c3:=fun W (hb:Below w.heap.size w W)=>(hok.2 p.select (by simp [PodD.lists])).fits ol hb
  have c4:=fun W (hb:Below w.heap.size w W)=>ot.fits (hok.2 p.bears (by simp [PodD.lists])) hb
  have c5:=fun W (hb:Below w.heap.size w W)=>qdd (H.below hb) hfull (by have:=hS.pods;omega) s hs p (hok.below hb)
  have c6:=fun W (hb:Below w.heap.size w W)=>qcq (H.below hb) hfull (by have:=hS.pods;omega) s hs p (hok.below hb)
  have hnl:=(hok.2 p.near (by simp [PodD.lists])).1
  unfold PodD.cells Lst.val at c5 c6
  unfold PodD.cells Lst.val
  dsimp only at h1
  rw [h1] at c1
  rw [h2] at c2
  rw [← el] at h3
  rw [h3] at c3
  rw [← et] at h4
  rw [h4] at c4
  rw [h6] at c6
  have hne': ¬ (0:Int) < (p.near.L.length:Int):=by omega
  clear hne
  clear H hfull hS hx hok hpn hub hrm hu hrow ol ot el et lkN lkV hgx
  go_enter Tryz.func97,Tryz.ntmps97
  go_wp2
  go_region
  all_goals (go_wp2_with (first
      | (go_at_call 107;refine (c6 w4 hW4).mono ?_;rintro e w6 ⟨rfl,hb6⟩;have hW6:=qj hW4 hb6)
      | (go_at_call_of 105 (Value.slice t.a t.L.length t.cap);refine (c4 w3 hW3).mono ?_;rintro e w4 ⟨rfl,hb4⟩;have a4:=fun o=>hb4.cell (p:=⟨w.heap.size,o,none⟩) zzz3;have b4:=fun o=>hb4.cell (p:=⟨w.heap.size+1,o,none⟩) zz3;have d4:=fun o=>hb4.cell (p:=⟨w.heap.size+1+1,o,none⟩) z3;have z4:w.heap.size+1+1 < w4.heap.size:=Nat.lt_of_lt_of_le z3 hb4.size;have zz4:w.heap.size+1 < w4.heap.size:=(by omega);have zzz4:w.heap.size < w4.heap.size:=(by omega);have hW4:=qj hW3 hb4)
      | (go_at_call_of 105 (Value.slice p.select.a p.select.L.length p.select.cap);refine (c3 w2 hW2).mono ?_;rintro e w3 ⟨rfl,hb3⟩;have a3:=fun o=>hb3.cell (p:=⟨w.heap.size,o,none⟩) zzz2;have b3:=fun o=>hb3.cell (p:=⟨w.heap.size+1,o,none⟩) zz2;have d3:=fun o=>hb3.cell (p:=⟨w.heap.size+1+1,o,none⟩) z2;have z3:w.heap.size+1+1 < w3.heap.size:=Nat.lt_of_lt_of_le z2 hb3.size;have zz3:w.heap.size+1 < w3.heap.size:=(by omega);have zzz3:w.heap.size < w3.heap.size:=(by omega);have hW3:=qj hW2 hb3)
      | (go_at_call 104;refine (c2 w1 hW1).mono ?_;rintro e w2 ⟨rfl,hb2⟩;have a2:=fun o=>hb2.cell (p:=⟨w.heap.size,o,none⟩) zzz1;have b2:=fun o=>hb2.cell (p:=⟨w.heap.size+1,o,none⟩) zz1;have d2:=fun o=>hb2.cell (p:=⟨w.heap.size+1+1,o,none⟩) z1;have z2:w.heap.size+1+1 < w2.heap.size:=Nat.lt_of_lt_of_le z1 hb2.size;have zz2:w.heap.size+1 < w2.heap.size:=(by omega);have zzz2:w.heap.size < w2.heap.size:=(by omega);have hW2:=qj hW1 hb2)
      | (go_at_call 103;refine (c1 _).mono ?_;rintro e w1 ⟨rfl,hb1⟩;have a1:=fun o=>hb1.cell (p:=⟨w.heap.size,o,none⟩) (hzC _ _ _);have b1:=fun o=>hb1.cell (p:=⟨w.heap.size+1,o,none⟩) (hzB _ _ _);have d1:=fun o=>hb1.cell (p:=⟨w.heap.size+1+1,o,none⟩) (hzA _ _ _);have z1:w.heap.size+1+1 < w1.heap.size:=Nat.lt_of_lt_of_le (hzA _ _ _) hb1.size;have zz1:w.heap.size+1 < w1.heap.size:=(by omega);have zzz1:w.heap.size < w1.heap.size:=(by omega);have hW1:=qj (hWA _ _ _) hb1)))
  all_goals go_ret
  all_goals exact ⟨rfl,hW6⟩
end
end
end Go.Proofs.YtchddaafibjmgaaGreat
