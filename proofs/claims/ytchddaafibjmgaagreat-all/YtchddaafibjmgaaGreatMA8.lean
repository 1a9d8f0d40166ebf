import Derived.Test.YtchddaafibjmgaaGreatMA7
set_option maxRecDepth 100000
set_option maxHeartbeats 20000000
namespace Go.Proofs.YtchddaafibjmgaaGreat
section
open Go.RowKit Go.Maps
structure PodV where
  n0:Int
  n1:Int
  n2:Int
  port:Int
  labels:List Lab
  select:List Lab
  bears:List Lab
  near:List Lab
  apart:List Lab
def PodD.val (p:PodD):PodV:=⟨p.n0,p.n1,p.n2,p.port,p.labels.L,p.select.L,p.bears.L,p.near.L,p.apart.L⟩
def whyG (g:Gh) (k:qn) (n:qbb) (u:Int×Int×Int) (p:PodV):Int:=
  if qbg n.r0 n.r1 n.r2 u.1 u.2.1 u.2.2 p.n0 p.n1 p.n2 then 1 else if !(p.port==0)&&(qat g k).any (fun q=>q.2.port==p.port) then 2 else if !qae p.select n.labels then 3 else if !qae n.taints p.bears then 4
  else if decide (0 < p.near.length)&& !qbm g k (fun q=>qae p.near q.2.labels) then 5 else if qbm g k (fun q=>qbv p.apart q.2.labels || qbv q.2.apart p.labels) then 6 else 0
section
variable {F:Nat→Prop} {w:World} {Y:Nat} {hd:Head} {g:Gh}
theorem Lst.ok.fits {x y:Lst} {w W:World} (hx:x.ok w) (hy:y.ok w) (hb:Below w.heap.size w W):Calls Tryz.prog 105 #[.slice x.a x.L.length x.cap,.slice y.a y.L.length y.cap] W fun e w'=>e= .returned (.bool (qae x.L y.L))∧Below W.heap.size W w':=
  fits_any x.L y.L x.a y.a x.cap y.cap W hx.1 hy.1 (hx.below hb).2.2.1 (hy.below hb).2.2.1
theorem BMem.lookNV (H:BMem F w Y hd g) (hfull:Full g) (s:ByteArray) (hs:s.size≤maxLen) {x:Value×qbb} (hx:getL g.NN (ky s)=some x): ∃ (l t:Lst) (u0 u1 u2:Int) (ao:Option Addr) (cap:Nat),l.L=x.2.labels∧t.L=x.2.taints∧l.ok w∧t.ok w∧(u0,u1,u2)=qt g.pods (ky s)∧
    w.ownsRow 0 129 1 (.slice ao (qat g (ky s)).length cap) (qat g (ky s)).length ((qat g (ky s)).map fun p=>ptrV p.1)∧
    (∀ w1,Below w.heap.size w w1→(Instr.lookup 112 (.map (some g.bn)) (.string s) false).run Tryz.prog w1= .ok (.agg #[.int .i64 x.2.r0,.int .i64 x.2.r1,.int .i64 x.2.r2,.slice l.a l.L.length l.cap,.slice t.a t.L.length t.cap]) w1)∧
    ∀ w1,Below w.heap.size w w1→(Instr.lookup 115 (.map (some g.bv)) (.string s) false).run Tryz.prog w1= .ok (.agg #[.int .i64 u0,.int .i64 u1,.int .i64 u2,.slice ao (qat g (ky s)).length cap]) w1:=by
  obtain ⟨u0,u1,u2,ao,cap,hu,hrow,lk⟩:=H.lookV hfull s hs (by rw [hx];rfl)
  obtain ⟨h1,h2⟩:=H.getN hx
  obtain ⟨b1,c1,b2,c2,h3,_,_,o1,o2⟩:=h2.shape
  refine ⟨⟨some ⟨b1,0,none⟩,x.2.labels,c1⟩,⟨some ⟨b2,0,none⟩,x.2.taints,c2⟩,u0,u1,u2,ao,cap,rfl,rfl,o1,o2,hu,hrow,fun w1 hb=> ?_,lk⟩
  rw [(H.below hb).nd.look strK Tryz.underlying112 (zeroNode w1) (keyS s hs),h1,Option.getD_some,h3]
structure qg7 (g:Gh):Prop where
  pods:g.PP.length≤128
  room: ∀ p∈g.NN,∀ x∈ [p.2.2.r0,p.2.2.r1,p.2.2.r2],0≤x∧x≤1099511627776
  need: ∀ p∈g.PP,∀ x∈ [p.2.2.n0,p.2.2.n1,p.2.2.n2],0≤x∧x≤1099511627776
theorem qgd (l:List (qn×qag)) (h: ∀ p∈l,∀ x∈ [p.2.n0,p.2.n1,p.2.n2],0≤x∧x≤1099511627776) (k:qn): ∀ x∈ [(qt l k).1,(qt l k).2.1,(qt l k).2.2],0≤x∧x≤1099511627776 * l.length:=by
  induction l with
  | nil=>simp [qt]
  | cons p r ih=>
    have ih':=ih fun q hq=>h q (List.mem_cons_of_mem _ hq)
    have hp:=h p List.mem_cons_self
    simp only [List.mem_cons,List.not_mem_nil,or_false,forall_eq_or_imp,forall_eq] at ih' hp ⊢
    unfold qt
    simp only [List.length_cons]
    split<;>(try dsimp only)<;>omega
theorem qg7.used (hS:qg7 g) (k:qn): ∀ x∈ [(qt g.pods k).1,(qt g.pods k).2.1,(qt g.pods k).2.2],0≤x∧x≤500000000000000:=by
  intro x hx
  have hb:=qgd g.pods (fun p hp=>by
    obtain ⟨q,hq,rfl⟩:=qer.1 hp
    exact hS.need q hq) k x hx
  have hl:g.pods.length≤128:=by unfold Gh.pods;rw [qw];exact hS.pods
  omega
end
end
section
open Go.RowKit Go.Maps
section
variable {F:Nat→Prop} {w:World} {Y:Nat} {hd:Head} {g:Gh}
theorem reason1 (H:BMem F w Y hd g) (hfull:Full g) (hS:qg7 g) (s:ByteArray) (hs:s.size≤maxLen) (x:Value×qbb) (hx:getL g.NN (ky s)=some x) (p:PodD) (hok:p.ok w) (hpn: ∀ y∈ [p.n0,p.n1,p.n2],0≤y∧y≤1099511627776)
    (h1:qbg x.2.r0 x.2.r1 x.2.r2 (qt g.pods (ky s)).1 (qt g.pods (ky s)).2.1 (qt g.pods (ky s)).2.2 p.n0 p.n1 p.n2=true):
    Calls Tryz.prog 97 #[.pointer (some ⟨Y,0,none⟩),.string s,.agg p.cells] w fun e w'=>e= .returned (.int .i64 1)∧Below w.heap.size w w':=by
  have hx4:=H.cN
  have hx7:=H.cV
  have hY:=H.lt Y H.fy
  have hgx:=qar hx
  obtain ⟨l,t,u0,u1,u2,ao,cap,el,et,ol,ot,hu,hrow,lkN,lkV⟩:=H.lookNV hfull s hs hx
  have hub:=hS.used (ky s)
  rw [← hu] at hub h1
  dsimp only at hub
  have hrm:=hS.room _ hgx
  dsimp only at hrm
  have lkN0:=fun B=>lkN _ (qi w B).drew
  have lkV0:=fun B=>lkV _ (qi w B).drew
  have lkN1:=fun B o=>lkN _ (((qj (qi w B) (qi _ o)).drew))
  have lkV1:=fun B o=>lkV _ (((qj (qi w B) (qi _ o)).drew))
  have lkN2:=fun B o o'=>lkN _ (((qj (qj (qi w B) (qi _ o)) (qi _ o')).drew))
  have lkV2:=fun B o o'=>lkV _ (((qj (qj (qi w B) (qi _ o)) (qi _ o')).drew))
  have yN1:=fun B o=>((qj (qi w B) (qi _ o)).cell (p:=⟨Y,4,none⟩) hY).trans hx4
  have yN2:=fun B o o'=>((qj (qj (qi w B) (qi _ o)) (qi _ o')).cell (p:=⟨Y,4,none⟩) hY).trans hx4
  have yV1:=fun B o=>((qj (qi w B) (qi _ o)).cell (p:=⟨Y,7,none⟩) hY).trans hx7
  have yV2:=fun B o o'=>((qj (qj (qi w B) (qi _ o)) (qi _ o')).cell (p:=⟨Y,7,none⟩) hY).trans hx7
  have hWA:=fun B o o'=>((qj (qj (qi w B) (qi _ o)) (qi _ o')).drew)
  have hzA: ∀ B o o',w.heap.size+1+1 < (((w.alloc B).alloc o).alloc o').drew.heap.size:=fun B o o'=>by simp
  have hzB: ∀ B o o',w.heap.size+1 < (((w.alloc B).alloc o).alloc o').drew.heap.size:=fun B o o'=>Nat.lt_of_succ_lt (hzA B o o')
  have hzC: ∀ B o o',w.heap.size < (((w.alloc B).alloc o).alloc o').drew.heap.size:=fun B o o'=>Nat.lt_of_succ_lt (hzB B o o')
  have c1:=fun W=>qdb x.2.r0 x.2.r1 x.2.r2 u0 u1 u2 p.n0 p.n1 p.n2 W (by
    simp only [List.mem_cons,List.not_mem_nil,or_false,forall_eq_or_imp,forall_eq] at hrm hpn ⊢
    omega) hub
  have c2:=fun W (hb:Below w.heap.size w W)=>qdc (w:=W) (F:=F) (qat g (ky s)) p.port ao cap (Nat.le_trans (qbp _) (by have:=hS.pods;omega)) ((Kept.of_below (F:=qq) hb).ownsRow hrow fun _ _=>id) fun q hq=>by
    obtain ⟨q',hq',rfl⟩:=qc0 hq
    exact (H.pp q' hq').below hb
  have c3:=fun W (hb:Below w.heap.size w W)=>(hok.2 p.select (by simp [PodD.lists])).fits ol hb
  have c4:=fun W (hb:Below w.heap.size w W)=>ot.fits (hok.2 p.bears (by simp [PodD.lists])) hb
  have c5:=fun W (hb:Below w.heap.size w W)=>qdd (H.below hb) hfull (by have:=hS.pods;omega) s hs p (hok.below hb)
  have c6:=fun W (hb:Below w.heap.size w W)=>qcq (H.below hb) hfull (by have:=hS.pods;omega) s hs p (hok.below hb)
  have hnl:=(hok.2 p.near (by simp [PodD.lists])).1
  unfold PodD.cells Lst.val at c5 c6
  unfold PodD.cells Lst.val
  dsimp only at h1
  rw [h1] at c1
  clear H hfull hS hx hok hpn hub hrm hu hrow ol ot el et lkN lkV hgx
  go_enter Tryz.func97,Tryz.ntmps97
  go_wp2
  go_region
  all_goals (go_wp2_with (first
      | (go_at_call 103;refine (c1 _).mono ?_;rintro e w1 ⟨rfl,hb1⟩;have a1:=fun o=>hb1.cell (p:=⟨w.heap.size,o,none⟩) (hzC _ _ _);have b1:=fun o=>hb1.cell (p:=⟨w.heap.size+1,o,none⟩) (hzB _ _ _);have d1:=fun o=>hb1.cell (p:=⟨w.heap.size+1+1,o,none⟩) (hzA _ _ _);have z1:w.heap.size+1+1 < w1.heap.size:=Nat.lt_of_lt_of_le (hzA _ _ _) hb1.size;have zz1:w.heap.size+1 < w1.heap.size:=(by omega);have zzz1:w.heap.size < w1.heap.size:=(by omega);have hW1:=qj (hWA _ _ _) hb1)))
  all_goals go_ret
  all_goals exact ⟨rfl,hW1⟩
end
end
section
open Go.RowKit Go.Maps
section
variable {F:Nat→Prop} {w:World} {Y:Nat} {hd:Head} {g:Gh}
theorem reason2 (H:BMem F w Y hd g) (hfull:Full g) (hS:qg7 g) (s:ByteArray) (hs:s.size≤maxLen) (x:Value×qbb) (hx:getL g.NN (ky s)=some x) (p:PodD) (hok:p.ok w) (hpn: ∀ y∈ [p.n0,p.n1,p.n2],0≤y∧y≤1099511627776)
    (h1:qbg x.2.r0 x.2.r1 x.2.r2 (qt g.pods (ky s)).1 (qt g.pods (ky s)).2.1 (qt g.pods (ky s)).2.2 p.n0 p.n1 p.n2=false) (h2:(!(p.port==0)&&(qat g (ky s)).any fun q=>q.2.port==p.port)=true):
    Calls Tryz.prog 97 #[.pointer (some ⟨Y,0,none⟩),.string s,.agg p.cells] w fun e w'=>e= .returned (.int .i64 2)∧Below w.heap.size w w':=by
  have hx4:=H.cN
  have hx7:=H.cV
  have hY:=H.lt Y H.fy
  have hgx:=qar hx
  obtain ⟨l,t,u0,u1,u2,ao,cap,el,et,ol,ot,hu,hrow,lkN,lkV⟩:=H.lookNV hfull s hs hx
  have hub:=hS.used (ky s)
  rw [← hu] at hub h1
  dsimp only at hub
  have hrm:=hS.room _ hgx
  dsimp only at hrm
  have lkN0:=fun B=>lkN _ (qi w B).drew
  have lkV0:=fun B=>lkV _ (qi w B).drew
  have lkN1:=fun B o=>lkN _ (((qj (qi w B) (qi _ o)).drew))
  have lkV1:=fun B o=>lkV _ (((qj (qi w B) (qi _ o)).drew))
  have lkN2:=fun B o o'=>lkN _ (((qj (qj (qi w B) (qi _ o)) (qi _ o')).drew))
  have lkV2:=fun B o o'=>lkV _ (((qj (qj (qi w B) (qi _ o)) (qi _ o')).drew))
  have yN1:=fun B o=>((qj (qi w B) (qi _ o)).cell (p:=⟨Y,4,none⟩) hY).trans hx4
  have yN2:=fun B o o'=>((qj (qj (qi w B) (qi _ o)) (qi _ o')).cell (p:=⟨Y,4,none⟩) hY).trans hx4
  have yV1:=fun B o=>((qj (qi w B) (qi _ o)).cell (p:=⟨Y,7,none⟩) hY).trans hx7
  have yV2:=fun B o o'=>((qj (qj (qi w B) (qi _ o)) (qi _ o')).cell (p:=⟨Y,7,none⟩) hY).trans hx7
  have hWA:=fun B o o'=>((qj (qj (qi w B) (qi _ o)) (qi _ o')).drew)
  have hzA: ∀ B o o',w.heap.size+1+1 < (((w.alloc B).alloc o).alloc o').drew.heap.size:=fun B o o'=>by simp
  have hzB: ∀ B o o',w.heap.size+1 < (((w.alloc B).alloc o).alloc o').drew.heap.size:=fun B o o'=>Nat.lt_of_succ_lt (hzA B o o')
  have hzC: ∀ B o o',w.heap.size < (((w.alloc B).alloc o).alloc o').drew.heap.size:=fun B o o'=>Nat.lt_of_succ_lt (hzB B o o')
  have c1:=fun W=>qdb x.2.r0 x.2.r1 x.2.r2 u0 u1 u2 p.n0 p.n1 p.n2 W (by
    simp only [List.mem_cons,List.not_mem_nil,or_false,forall_eq_or_imp,forall_eq] at hrm hpn ⊢
    omega) hub
  have c2:=fun W (hb:Below w.heap.size w W)=>qdc (w:=W) (F:=F) (qat g (ky s)) p.port ao cap (Nat.le_trans (qbp _) (by have:=hS.pods;omega)) ((Kept.of_below (F:=qq) hb).ownsRow hrow fun _ _=>id) fun q hq=>by
    obtain ⟨q',hq',rfl⟩:=qc0 hq
    exact (H.pp q' hq').below hb
  have c3:=fun W (hb:Below w.heap.size w W)=>(hok.2 p.select (by simp [PodD.lists])).fits ol hb
  have c4:=fun W (hb:Below w.heap.size w W)=>ot.fits (hok.2 p.bears (by simp [PodD.lists])) hb
  have c5:=fun W (hb:Below w.heap.size w W)=>qdd (H.below hb) hfull (by have:=hS.pods;omega) s hs p (hok.below hb)
  have c6:=fun W (hb:Below w.heap.size w W)=>qcq (H.below hb) hfull (by have:=hS.pods;omega) s hs p (hok.below hb)
  have hnl:=(hok.2 p.near (by simp [PodD.lists])).1
  unfold PodD.cells Lst.val at c5 c6
  unfold PodD.cells Lst.val
  dsimp only at h1
  rw [h1] at c1
  rw [h2] at c2
  clear H hfull hS hx hok hpn hub hrm hu hrow ol ot el et lkN lkV hgx
  go_enter Tryz.func97,Tryz.ntmps97
  go_wp2
  go_region
  all_goals (go_wp2_with (first
      | (go_at_call 104;refine (c2 w1 hW1).mono ?_;rintro e w2 ⟨rfl,hb2⟩;have a2:=fun o=>hb2.cell (p:=⟨w.heap.size,o,none⟩) zzz1;have b2:=fun o=>hb2.cell (p:=⟨w.heap.size+1,o,none⟩) zz1;have d2:=fun o=>hb2.cell (p:=⟨w.heap.size+1+1,o,none⟩) z1;have z2:w.heap.size+1+1 < w2.heap.size:=Nat.lt_of_lt_of_le z1 hb2.size;have zz2:w.heap.size+1 < w2.heap.size:=(by omega);have zzz2:w.heap.size < w2.heap.size:=(by omega);have hW2:=qj hW1 hb2)
      | (go_at_call 103;refine (c1 _).mono ?_;rintro e w1 ⟨rfl,hb1⟩;have a1:=fun o=>hb1.cell (p:=⟨w.heap.size,o,none⟩) (hzC _ _ _);have b1:=fun o=>hb1.cell (p:=⟨w.heap.size+1,o,none⟩) (hzB _ _ _);have d1:=fun o=>hb1.cell (p:=⟨w.heap.size+1+1,o,none⟩) (hzA _ _ _);have z1:w.heap.size+1+1 < w1.heap.size:=Nat.lt_of_lt_of_le (hzA _ _ _) hb1.size;have zz1:w.heap.size+1 < w1.heap.size:=(by omega);have zzz1:w.heap.size < w1.heap.size:=(by omega);have hW1:=qj (hWA _ _ _) hb1)))
  all_goals go_ret
  all_goals exact ⟨rfl,hW2⟩
end
end
section
open Go.RowKit Go.Maps
section
variable {F:Nat→Prop} {w:World} {Y:Nat} {hd:Head} {g:Gh}
theorem reason3 (H:BMem F w Y hd g) (hfull:Full g) (hS:qg7 g) (s:ByteArray) (hs:s.size≤maxLen) (x:Value×qbb) (hx:getL g.NN (ky s)=some x) (p:PodD) (hok:p.ok w) (hpn: ∀ y∈ [p.n0,p.n1,p.n2],0≤y∧y≤1099511627776)
    (h1:qbg x.2.r0 x.2.r1 x.2.r2 (qt g.pods (ky s)).1 (qt g.pods (ky s)).2.1 (qt g.pods (ky s)).2.2 p.n0 p.n1 p.n2=false) (h2:(!(p.port==0)&&(qat g (ky s)).any fun q=>q.2.port==p.port)=false) (h3:qae p.select.L x.2.labels=false):
    Calls Tryz.prog 97 #[.pointer (some ⟨Y,0,none⟩),.string s,.agg p.cells] w fun e w'=>e= .returned (.int .i64 3)∧Below w.heap.size w w':=by
  have hx4:=H.cN
  have hx7:=H.cV
  have hY:=H.lt Y H.fy
  have hgx:=qar hx
  obtain ⟨l,t,u0,u1,u2,ao,cap,el,et,ol,ot,hu,hrow,lkN,lkV⟩:=H.lookNV hfull s hs hx
  have hub:=hS.used (ky s)
  rw [← hu] at hub h1
  dsimp only at hub
  have hrm:=hS.room _ hgx
  dsimp only at hrm
  have lkN0:=fun B=>lkN _ (qi w B).drew
  have lkV0:=fun B=>lkV _ (qi w B).drew
  have lkN1:=fun B o=>lkN _ (((qj (qi w B) (qi _ o)).drew))
  have lkV1:=fun B o=>lkV _ (((qj (qi w B) (qi _ o)).drew))
  have lkN2:=fun B o o'=>lkN _ (((qj (qj (qi w B) (qi _ o)) (qi _ o')).drew))
  have lkV2:=fun B o o'=>lkV _ (((qj (qj (qi w B) (qi _ o)) (qi _ o')).drew))
  have yN1:=fun B o=>((qj (qi w B) (qi _ o)).cell (p:=⟨Y,4,none⟩) hY).trans hx4
  have yN2:=fun B o o'=>((qj (qj (qi w B) (qi _ o)) (qi _ o')).cell (p:=⟨Y,4,none⟩) hY).trans hx4
  have yV1:=fun B o=>((qj (qi w B) (qi _ o)).cell (p:=⟨Y,7,none⟩) hY).trans hx7
  have yV2:=fun B o o'=>((qj (qj (qi w B) (qi _ o)) (qi _ o')).cell (p:=⟨Y,7,none⟩) hY).trans hx7
  have hWA:=fun B o o'=>((qj (qj (qi w B) (qi _ o)) (qi _ o')).drew)
  have hzA: ∀ B o o',w.heap.size+1+1 < (((w.alloc B).alloc o).alloc o').drew.heap.size:=fun B o o'=>by simp
  have hzB: ∀ B o o',w.heap.size+1 < (((w.alloc B).alloc o).alloc o').drew.heap.size:=fun B o o'=>Nat.lt_of_succ_lt (hzA B o o')
  have hzC: ∀ B o o',w.heap.size < (((w.alloc B).alloc o).alloc o').drew.heap.size:=fun B o o'=>Nat.lt_of_succ_lt (hzB B o o')
  have c1:=fun W=>qdb x.2.r0 x.2.r1 x.2.r2 u0 u1 u2 p.n0 p.n1 p.n2 W (by
    simp only [List.mem_cons,List.not_mem_nil,or_false,forall_eq_or_imp,forall_eq] at hrm hpn ⊢
    omega) hub
  have c2:=fun W (hb:Below w.heap.size w W)=>qdc (w:=W) (F:=F) (qat g (ky s)) p.port ao cap (Nat.le_trans (qbp _) (by have:=hS.pods;omega)) ((Kept.of_below (F:=qq) hb).ownsRow hrow fun _ _=>id) fun q hq=>by
    obtain ⟨q',hq',rfl⟩:=qc0 hq
    exact (H.pp q' hq').below hb
  have c3:=fun W (hb:Below w.heap.size w W)=>(hok.2 p.select (by simp [PodD.lists])).fits ol hb
  have c4:=fun W (hb:Below w.heap.size w W)=>ot.fits (hok.2 p.bears (by simp [PodD.lists])) hb
  have c5:=fun W (hb:Below w.heap.size w W)=>qdd (H.below hb) hfull (by have:=hS.pods;omega) s hs p (hok.below hb)
  have c6:=fun W (hb:Below w.heap.size w W)=>qcq (H.below hb) hfull (by have:=hS.pods;omega) s hs p (hok.below hb)
  have hnl:=(hok.2 p.near (by simp [PodD.lists])).1
  unfold PodD.cells Lst.val at c5 c6
  unfold PodD.cells Lst.val
  dsimp only at h1
  rw [h1] at c1
  rw [h2] at c2
  rw [← el] at h3
  rw [h3] at c3
  clear H hfull hS hx hok hpn hub hrm hu hrow ol ot el et lkN lkV hgx
  go_enter Tryz.func97,Tryz.ntmps97
  go_wp2
  go_region
  all_goals (go_wp2_with (first
      | (go_at_call_of 105 (Value.slice p.select.a p.select.L.length p.select.cap);refine (c3 w2 hW2).mono ?_;rintro e w3 ⟨rfl,hb3⟩;have a3:=fun o=>hb3.cell (p:=⟨w.heap.size,o,none⟩) zzz2;have b3:=fun o=>hb3.cell (p:=⟨w.heap.size+1,o,none⟩) zz2;have d3:=fun o=>hb3.cell (p:=⟨w.heap.size+1+1,o,none⟩) z2;have z3:w.heap.size+1+1 < w3.heap.size:=Nat.lt_of_lt_of_le z2 hb3.size;have zz3:w.heap.size+1 < w3.heap.size:=(by omega);have zzz3:w.heap.size < w3.heap.size:=(by omega);have hW3:=qj hW2 hb3)
      | (go_at_call 104;refine (c2 w1 hW1).mono ?_;rintro e w2 ⟨rfl,hb2⟩;have a2:=fun o=>hb2.cell (p:=⟨w.heap.size,o,none⟩) zzz1;have b2:=fun o=>hb2.cell (p:=⟨w.heap.size+1,o,none⟩) zz1;have d2:=fun o=>hb2.cell (p:=⟨w.heap.size+1+1,o,none⟩) z1;have z2:w.heap.size+1+1 < w2.heap.size:=Nat.lt_of_lt_of_le z1 hb2.size;have zz2:w.heap.size+1 < w2.heap.size:=(by omega);have zzz2:w.heap.size < w2.heap.size:=(by omega);have hW2:=qj hW1 hb2)
      | (go_at_call 103;refine (c1 _).mono ?_;rintro e w1 ⟨rfl,hb1⟩;have a1:=fun o=>hb1.cell (p:=⟨w.heap.size,o,none⟩) (hzC _ _ _);have b1:=fun o=>hb1.cell (p:=⟨w.heap.size+1,o,none⟩) (hzB _ _ _);have d1:=fun o=>hb1.cell (p:=⟨w.heap.size+1+1,o,none⟩) (hzA _ _ _);have z1:w.heap.size+1+1 < w1.heap.size:=Nat.lt_of_lt_of_le (hzA _ _ _) hb1.size;have zz1:w.heap.size+1 < w1.heap.size:=(by omega);have zzz1:w.heap.size < w1.heap.size:=(by omega);have hW1:=qj (hWA _ _ _) hb1)))
  all_goals go_ret
  all_goals exact ⟨rfl,hW3⟩
end
end
end Go.Proofs.YtchddaafibjmgaaGreat
