import Derived.Test.YtchddaafibjmgaaGreatMA3
import Derived.Test.YtchddaafibjmgaaGreatMA1
import Derived.Maps.OwnSet
import Derived.Maps.OwnOps
import Derived.Deep.LoopGhost
import Derived.DeepKeys5
set_option maxRecDepth 100000
set_option maxHeartbeats 20000000
namespace Go.Proofs.YtchddaafibjmgaaGreat
section
open Go.RowKit Go.Maps
theorem zeroNode (w:World):(zeroValue 127).run Tryz.prog w= .ok (.agg #[.int .i64 0,.int .i64 0,.int .i64 0,.slice none 0 0,.slice none 0 0]) w:=by kernel_rfl
theorem qei (w:World):(zeroValue 129).run Tryz.prog w= .ok (.pointer none) w:=by kernel_rfl
theorem NodeAt.shape {F:Nat→Prop} {w:World} {v:Value} {n:qbb} (h:NodeAt F w v n): ∃ b1 c1 b2 c2,v= .agg #[.int .i64 n.r0,.int .i64 n.r1,.int .i64 n.r2,.slice (some ⟨b1,0,none⟩) n.labels.length c1,.slice (some ⟨b2,0,none⟩) n.taints.length c2]∧
    F b1∧F b2∧(Lst.mk (some ⟨b1,0,none⟩) n.labels c1).ok w∧(Lst.mk (some ⟨b2,0,none⟩) n.taints c2).ok w:=by
  obtain ⟨lv,tv,rfl,⟨b1,c1,u1,rfl,f1,_,o1⟩,⟨b2,c2,u2,rfl,f2,_,o2⟩⟩:=h
  exact ⟨b1,c1,b2,c2,rfl,f1,f2,o1,o2⟩
section
variable {F:Nat→Prop} {w:World} {Y:Nat} {hd:Head} {g:Gh}
theorem BMem.cN (H:BMem F w Y hd g):w.cell? ⟨Y,4,none⟩=some (.map (some g.bn)):=by rw [ql H.box];rfl
theorem BMem.cP (H:BMem F w Y hd g):w.cell? ⟨Y,5,none⟩=some (.map (some g.bp)):=by rw [ql H.box];rfl
theorem BMem.cF (H:BMem F w Y hd g):w.cell? ⟨Y,6,none⟩=some (.map (some g.bf)):=by rw [ql H.box];rfl
theorem BMem.cV (H:BMem F w Y hd g):w.cell? ⟨Y,7,none⟩=some (.map (some g.bv)):=by rw [ql H.box];rfl
theorem BMem.cC (H:BMem F w Y hd g):w.cell? ⟨Y,9,none⟩=some (.chan (some g.bc)):=by rw [ql H.box];rfl
theorem BMem.cA (H:BMem F w Y hd g):w.cell? ⟨Y,8,none⟩=some (.map (some g.ba)):=by rw [ql H.box];rfl
theorem BMem.getN (H:BMem F w Y hd g) {k:qn} {x:Value×qbb} (h:getL g.NN k=some x):getL (mapV (·.1) g.NN) k=some x.1∧NodeAt F w x.1 x.2:=by
  refine ⟨by rw [qz,h];rfl,H.nn _ (qar h)⟩
theorem BMem.getP (H:BMem F w Y hd g) {k:qn} {x:Nat×qag} (h:getL g.PP k=some x):getL (mapV (fun x=>ptrV x.1) g.PP) k=some (.pointer (some ⟨x.1,0,none⟩))∧qgx F w x.1 x.2:=by
  refine ⟨by rw [qz,h];rfl,H.pp _ (qar h)⟩
theorem qdv (H:BMem F w Y hd g) (s:ByteArray) (hs:s.size≤maxLen):
    Calls Tryz.prog 39 #[.pointer (some ⟨Y,0,none⟩),.string s] w fun e w'=>e= .returned (.bool (getL g.NN (ky s)).isSome)∧Below w.heap.size w w':=by
  have hx:=H.cN
  cases hg:getL g.NN (ky s) with
  | none=>
    have h1:getL (mapV (·.1) g.NN) (ky s)=none:=by rw [qz,hg];rfl
    clear hg
    go_enter Tryz.func39,Tryz.ntmps39
    go_wp2_with (at_lookup;refine qbx _ rfl _ _ 112 rfl 9 127 strK Tryz.underlying112 (zeroNode _) g.bn _ rfl H.nd _ (ky s) rfl (keyS s hs) h1 ?_)
    go_ret
    exact ⟨rfl,qi _ _⟩
  | some x=>
    obtain ⟨h1,h2⟩:=H.getN hg
    obtain ⟨b1,c1,b2,c2,h3,-⟩:=h2.shape
    rw [h3] at h1
    clear hg h2 h3
    go_enter Tryz.func39,Tryz.ntmps39
    go_wp2_with (at_lookup;refine qbw _ rfl _ _ 112 rfl 9 127 strK Tryz.underlying112 (zeroNode _) g.bn _ rfl H.nd _ (ky s) rfl (keyS s hs) _ h1 ?_)
    go_ret
    exact ⟨rfl,qi _ _⟩
def Gh.admits (g:Gh) (k:qn):Int:=if (getL g.PP k).isSome then 5 else if 128≤g.PP.length then 6 else 0
theorem qfz (H:BMem F w Y hd g) (s:ByteArray) (hs:s.size≤maxLen):
    Calls Tryz.prog 48 #[.pointer (some ⟨Y,0,none⟩),.string s] w fun e w'=>e= .returned (.int .i64 (g.admits (ky s)))∧w'=w:=by
  have hx:=H.cP
  cases hg:getL g.PP (ky s) with
  | none=>
    have h1:getL (mapV (fun x=>ptrV x.1) g.PP) (ky s)=none:=by rw [qz,hg];rfl
    have hl:=qw (fun x:Nat×qag=>ptrV x.1) g.PP
    by_cases hP':128≤g.PP.length
    · have HE:Hid (g.admits (ky s)=6):=by show g.admits _=6;simp [Gh.admits,hg,hP']
      clear hg
      rw [← hl] at hP'
      clear hl
      go_enter Tryz.func48,Tryz.ntmps48
      go_wp2_with (first
        | (at_lookup;refine qbx _ rfl _ _ 113 rfl 9 129 strK Tryz.underlying113 (qei _) g.bp _ rfl H.pd _ (ky s) rfl (keyS s hs) h1 ?_)
        | (at_len;refine wpL_len _ rfl _ 113 rfl 9 129 Tryz.underlying113 g.bp _ rfl H.pd ?_))
      go_ret
      exact ⟨by rw [HE.out];rfl,rfl⟩
    · have HE:Hid (g.admits (ky s)=0):=by show g.admits _=0;simp [Gh.admits,hg,hP']
      clear hg
      rw [← hl] at hP'
      clear hl
      go_enter Tryz.func48,Tryz.ntmps48
      go_wp2_with (first
        | (at_lookup;refine qbx _ rfl _ _ 113 rfl 9 129 strK Tryz.underlying113 (qei _) g.bp _ rfl H.pd _ (ky s) rfl (keyS s hs) h1 ?_)
        | (at_len;refine wpL_len _ rfl _ 113 rfl 9 129 Tryz.underlying113 g.bp _ rfl H.pd ?_))
      go_ret
      exact ⟨by rw [HE.out];rfl,rfl⟩
  | some x=>
    obtain ⟨h1,-⟩:=H.getP hg
    have HE:Hid (g.admits (ky s)=5):=by show g.admits _=5;simp [Gh.admits,hg]
    clear hg
    go_enter Tryz.func48,Tryz.ntmps48
    go_wp2_with (at_lookup;refine qbw _ rfl _ _ 113 rfl 9 129 strK Tryz.underlying113 (qei _) g.bp _ rfl H.pd _ (ky s) rfl (keyS s hs) _ h1 ?_)
    go_ret
    exact ⟨by rw [HE.out];rfl,rfl⟩
end
theorem labCells_at {w:World} {b off:Nat} {L:List Lab} (hc: ∀ k,k < L.length→w.cell? ⟨b,off+k * 2,none⟩=some (.string (qab L k).1)∧w.cell? ⟨b,off+k * 2+1,none⟩=some (.string (qab L k).2)):
    ∀ j v,(qav L)[j]? =some v→w.cell? ((⟨b,off,none⟩:Addr).add j)=some v:=by
  intro j v hv
  have hj:j < 2 * L.length:=by rw [← qbi];exact (List.getElem?_eq_some_iff.1 hv).1
  have ha:(⟨b,off,none⟩:Addr).add j=⟨b,off+j,none⟩:=by
    unfold Addr.add
    split
    · rename_i h;rw [h];rfl
    · rfl
  rw [ha]
  obtain ⟨k,rfl| rfl⟩: ∃ k,j=k * 2∨j=k * 2+1:=⟨j / 2,by omega⟩
  · have h1:=(qcp L k (by omega)).1
    rw [hv] at h1
    rw [h1]
    exact (hc k (by omega)).1
  · have h1:=(qcp L k (by omega)).2
    rw [hv] at h1
    rw [h1]
    exact (hc k (by omega)).2
theorem labCells_one (L:List Lab): ∀ v∈qav L,v.oneCell'=true:=by
  intro v hv
  unfold qav at hv
  rw [List.mem_flatMap] at hv
  obtain ⟨x,_,hx⟩:=hv
  simp at hx
  rcases hx with rfl| rfl<;>rfl
theorem labsAt_setCells {w:World} {b n:Nat} {c:Array Value} {t:TypeId} (L:List Lab) (hb:w.heap[b]? =some (.cells c t (0,0))) (hs:c.size=n * 2) (hn:n=L.length):qbd (w.setCells b 0 (qav L)) (some ⟨b,0,none⟩) L:=by
  subst hn
  have hin:=World.cell?_setCells_in b (qav L) 0 w (fun j hj=>by
    rw [qbi] at hj
    rw [ql hb,Array.getElem?_eq_getElem (by omega)]
    rfl)
  intro k hk
  obtain ⟨h1,h2⟩:=qcp L k hk
  have l1:=(List.getElem?_eq_some_iff.1 h1)
  have l2:=(List.getElem?_eq_some_iff.1 h2)
  obtain ⟨l1,e1⟩:=l1
  obtain ⟨l2,e2⟩:=l2
  refine ⟨b,0,rfl,?_,?_⟩
  · rw [hin (k * 2) l1,e1]
  · rw [show 0+k * 2+1=0+(k * 2+1) from by omega,hin (k * 2+1) l2,e2]
def Made (w w':World) (v:Value) (l:List Lab):Prop:= ∃ b cap,v= .slice (some ⟨b,0,none⟩) l.length cap∧w.heap.size≤b∧qaz (fun x=>x=b) w' v l
theorem Made.own {w w':World} {v:Value} {l:List Lab} {F:Nat→Prop} (h:Made w w' v l) (hF: ∀ b,w.heap.size≤b→b < w'.heap.size→F b):qaz F w' v l:=by
  obtain ⟨b,cap,rfl,hb,⟨b',cap',cur,e,rfl,h2,h3⟩⟩:=h
  simp only [Value.slice.injEq,true_and] at e
  subst e
  exact ⟨b',cap,cur,rfl,hF _ hb (qo h2),h2,h3⟩
theorem qc7 (x:Lst) (w:World) (h:x.ok w) (hn:x.L.length≤1000):
    Calls Tryz.prog 41 #[x.val] w fun e w'=> ∃ b cap,e= .returned (.slice (some ⟨b,0,none⟩) x.L.length cap)∧w.heap.size≤b∧qaz (fun y=>y=b) w' (.slice (some ⟨b,0,none⟩) x.L.length cap) x.L∧Below w.heap.size w w':=by
  obtain ⟨i0,hi,hz0,hz1,hz2⟩:=info_parts Tryz.infoLab
  have hsz:(Tryz.prog.info? 85).map (·.size)=some 2:=by rw [hi];simp [hz1]
  obtain ⟨a,L,cap⟩:=x
  unfold Lst.val
  dsimp only at hn ⊢
  obtain ⟨o1,o2,o3,o4⟩:=h
  dsimp only at o1 o2 o3 o4
  by_cases h0:0 < L.length
  · obtain ⟨b,off,rfl,hc⟩:=o3.head h0
    have hb:=World.block_lt_of_cell? w _ (hc 0 h0).1
    dsimp only at hb
    have Hc:Hid (∀ w1,Below w.heap.size w w1→ ∀ j v,(qav L)[j]? =some v→w1.cell? ((⟨b,off,none⟩:Addr).add j)=some v):=by
      intro w1 hb1
      exact labCells_at fun k hk=>⟨by rw [hb1.cell (p:=⟨b,off+k * 2,none⟩) hb];exact (hc k hk).1,by rw [hb1.cell (p:=⟨b,off+k * 2+1,none⟩) hb];exact (hc k hk).2⟩
    clear hc
    go_enter Tryz.func41,Tryz.ntmps41
    go_wp2_with (at_make;refine qfw _ rfl _ _ 68 rfl 85 i0 _ 2 Tryz.underlying68 hi hz0 hz1 _ _ _ _ L.length rfl rfl (by omega) (by omega) (by rw [hz2];omega) (by unfold maxLen;omega) ?_;intro w1 hn1 hb1;have hcp:=fun ty=>qgp (P:=Tryz.prog) w1 68 68 ty 85 w.heap.size 0 L.length L.length ⟨b,off,none⟩ L.length cap (qav L) 2 L.length Tryz.underlying68 hsz (Nat.min_self _) (by rw [qbi];omega) (Hc.out w1 hb1) (fun j hj=>by rw [qbi] at hj;rw [ql hn1,Array.getElem?_eq_getElem (by rw [size_madeCells];omega)];rfl) (fun j _=>qp hn1) (labCells_one L))
    go_ret
    refine ⟨_,_,rfl,Nat.le_refl _,⟨_,_,_,rfl,rfl,qcv _ _ hn1,o1,Nat.le_refl _,labsAt_setCells L hn1 (size_madeCells _ _) rfl,o4⟩,qcw (Nat.le_refl _) _ _ hb1⟩
  · have hL:L= []:=List.eq_nil_of_length_eq_zero (by omega)
    subst hL
    go_enter Tryz.func41,Tryz.ntmps41
    go_wp2_with (at_make;refine qfw _ rfl _ _ 68 rfl 85 i0 _ 2 Tryz.underlying68 hi hz0 hz1 _ _ _ _ 0 rfl rfl (by rfl) (by rfl) (by rw [hz2];omega) (by unfold maxLen;omega) ?_;intro w1 hn1 hb1;have hcp:=fun ty=>qhd (P:=Tryz.prog) w1 68 68 ty 85 (some ⟨w.heap.size,0,none⟩) a 0 0 0 cap Tryz.underlying68 i0 hi rfl)
    go_ret
    exact ⟨_,_,rfl,Nat.le_refl _,⟨_,_,_,rfl,rfl,hn1,o1,Nat.le_refl _,qbd.nil _ _,o4⟩,hb1⟩
end
section
open Go.RowKit Go.Maps
theorem pzone_any (r0 r1 r2:Int) (a a2:Option Addr) (L:List Lab) (c n2 c2:Nat) (w:World) (hl:L.length≤4398046511104) (o3:qbd w a L):
    Calls Tryz.prog 83 #[.agg #[.int .i64 r0,.int .i64 r1,.int .i64 r2,.slice a L.length c,.slice a2 n2 c2]] w fun e w'=>e= .returned (.string (qbj L))∧Below w.heap.size w w':=by
  go_enter Tryz.func83,Tryz.ntmps83
  go_wp2
  go_loopw [8] (fun i wr=> ∃ k:Nat,k≤L.length∧i= .int .i64 k∧Below w.heap.size w wr∧qbj (L.drop k)=qbj L) (fun i _=>L.length - (intOf i).toNat)
  case atStart=>exact ⟨0,Nat.zero_le _,rfl,qi _ _,by simp⟩
  case round=>
    obtain ⟨k,hk,rfl,hbw,hz⟩:=hrel
    have Hz:Hid (qbj (L.drop k)=qbj L):=hz
    clear hz
    by_cases hlt:k < L.length
    · have hd:=zoneOf_drop L k hlt
      obtain ⟨b,off,rfl,hc⟩:=(o3.below hbw).head (by omega)
      obtain ⟨hc1,hc2⟩:=hc k hlt
      have hb:=World.block_lt_of_cell? wr _ hc1
      dsimp only at hb
      clear hc
      have Hd:Hid (qbj (L.drop k)=if (qab L k).1.toList==zoneB.toList then (qab L k).2 else qbj (L.drop (k+1))):=hd
      clear hd
      cases hE:((qab L k).1.toList==zoneB.toList)
      · have HS:Hid (qbj (L.drop (k+1))=qbj L):=by show qbj _=_;rw [← Hz.out,Hd.out,hE];rfl
        rw [zoneB_list] at hE
        go_wp2
        go_roundw
        case rel=>exact ⟨k+1,by omega,by go_num,qj hbw (qi _ _),HS.out⟩
        case measure=>simp [intOf];omega
      · have HS:Hid (qbj L=(qab L k).2):=by show qbj _=_;rw [← Hz.out,Hd.out,hE];rfl
        rw [zoneB_list] at hE
        go_wp2
        go_ret
        exact ⟨by rw [HS.out];rfl,qj hbw (qi _ _)⟩
    · have h0:=Hz.out
      rw [List.drop_eq_nil_of_le (by omega)] at h0
      have H0:Hid (qbj L=⟨#[]⟩):=h0.symm
      clear h0
      go_wp2
      go_ret
      exact ⟨by rw [H0.out];rfl,hbw⟩
def zoneAt (nodes:List (qn×qbb)) (k:qn):ByteArray:=match getL nodes k with
  | some n=>qbj n.labels
  | none=>⟨#[]⟩
def nbrB (nodes:List (qn×qbb)) (a b:qn):Bool:=(a==b) || (!(zoneAt nodes a).toList.isEmpty&&((zoneAt nodes a).toList==(zoneAt nodes b).toList))
section
variable {F:Nat→Prop} {w:World} {Y:Nat} {hd:Head} {g:Gh}
theorem zoneAt_some {k:qn} {x:Value×qbb} (h:getL g.NN k=some x):zoneAt g.nodes k=qbj x.2.labels:=by
  unfold zoneAt Gh.nodes
  rw [qz,h]
  rfl
theorem zoneAt_none {k:qn} (h:getL g.NN k=none):zoneAt g.nodes k=⟨#[]⟩:=by
  unfold zoneAt Gh.nodes
  rw [qz,h]
  rfl
theorem BMem.lookN (H:BMem F w Y hd g) (s:ByteArray) (hs:s.size≤maxLen): ∃ r0 r1 r2 a L c a2 n2 c2,qbd w a L∧qbj L=zoneAt g.nodes (ky s)∧List.length L≤4398046511104∧
    ∀ w1,Below w.heap.size w w1→(Instr.lookup 112 (.map (some g.bn)) (.string s) false).run Tryz.prog w1= .ok (.agg #[.int .i64 r0,.int .i64 r1,.int .i64 r2,.slice a (List.length L) c,.slice a2 n2 c2]) w1:=by
  have run: ∀ w1,Below w.heap.size w w1→(Instr.lookup 112 (.map (some g.bn)) (.string s) false).run Tryz.prog w1= .ok ((getL (mapV (·.1) g.NN) (ky s)).getD (.agg #[.int .i64 0,.int .i64 0,.int .i64 0,.slice none 0 0,.slice none 0 0])) w1:=
    fun w1 hb=>(H.below hb).nd.look strK Tryz.underlying112 (zeroNode w1) (keyS s hs)
  cases h:getL g.NN (ky s) with
  | none=>
    refine ⟨0,0,0,none,[],0,none,0,0,qbd.nil _ _,by rw [zoneAt_none h];rfl,by simp,fun w1 hb=> ?_⟩
    rw [run w1 hb,qz,h]
    rfl
  | some x=>
    obtain ⟨h1,h2⟩:=H.getN h
    obtain ⟨b1,c1,b2,c2,h3,_,_,o1,_⟩:=h2.shape
    refine ⟨x.2.r0,x.2.r1,x.2.r2,some ⟨b1,0,none⟩,x.2.labels,c1,some ⟨b2,0,none⟩,x.2.taints.length,c2,o1.2.2.1,(zoneAt_some h).symm,o1.1,fun w1 hb=> ?_⟩
    rw [run w1 hb,h1,Option.getD_some,h3]
theorem nbr_any (H:BMem F w Y hd g) (s t:ByteArray) (hs:s.size≤maxLen) (ht:t.size≤maxLen):
    Calls Tryz.prog 69 #[.pointer (some ⟨Y,0,none⟩),.string s,.string t] w fun e w'=>e= .returned (.bool (nbrB g.nodes (ky s) (ky t)))∧Below w.heap.size w w':=by
  have hx:=H.cN
  obtain ⟨r0,r1,r2,a,L,c,a2,n2,c2,o1,z1,l1,k1⟩:=H.lookN s hs
  obtain ⟨q0,q1,q2,d,M,e,d2,m2,e2,o2,z2,l2,k2⟩:=H.lookN t ht
  have c1:=fun w1 (hb:Below w.heap.size w w1)=>pzone_any r0 r1 r2 a a2 L c n2 c2 w1 l1 (o1.below hb)
  have c3:=fun w1 (hb:Below w.heap.size w w1)=>pzone_any q0 q1 q2 d d2 M e m2 e2 w1 l2 (o2.below hb)
  have k1:=k1 w (Below.refl _ _)
  have hY:=(H.lt Y H.fy)
  have hE':(ky s==ky t)=(s.toList==t.toList):=by rw [qfx,qfx]
  cases hE:(s.toList==t.toList)
  · cases hZ:(qbj L).toList.isEmpty
    · have HE:Hid (nbrB g.nodes (ky s) (ky t)=((qbj L).toList==(qbj M).toList)):=by show nbrB _ _ _=_;rw [nbrB,hE',hE,← z1,← z2,hZ];rfl
      clear z1 z2 hE'
      go_enter Tryz.func69,Tryz.ntmps69
      go_wp2_with (first
        | (go_at_call 83;refine (c3 w1 hb1).mono ?_;rintro e w2 ⟨rfl,hb2⟩)
        | (go_at_call 83;refine (c1 w (Below.refl _ _)).mono ?_;rintro e w1 ⟨rfl,hb1⟩;have y1:=fun o=>hb1.cell (p:=⟨Y,o,none⟩) hY;have kk:=k2 w1 hb1))
      go_ret
      exact ⟨by rw [HE.out];rfl,qj hb1 hb2⟩
    · have HE:Hid (nbrB g.nodes (ky s) (ky t)=false):=by show nbrB _ _ _=_;rw [nbrB,hE',hE,← z1,hZ];rfl
      clear z1 z2 hE'
      go_enter Tryz.func69,Tryz.ntmps69
      go_wp2_with (go_at_call 83;refine (c1 w (Below.refl _ _)).mono ?_;rintro e w1 ⟨rfl,hb1⟩)
      go_ret
      exact ⟨by rw [HE.out];rfl,hb1⟩
  · have HE:Hid (nbrB g.nodes (ky s) (ky t)=true):=by show nbrB _ _ _=_;rw [nbrB,hE',hE];rfl
    clear z1 z2 hE'
    go_enter Tryz.func69,Tryz.ntmps69
    go_wp2_with (go_at_call 83;refine (c1 w (Below.refl _ _)).mono ?_;rintro e w1 ⟨rfl,hb1⟩)
    go_ret
    exact ⟨by rw [HE.out];rfl,hb1⟩
end
end
section
open Go.RowKit Go.Maps
section
variable {F F':Nat→Prop} {w w':World} {Y:Nat} {hd:Head} {g:Gh}
theorem nodup_inj {α β:Type} {f:α→β}: ∀ {l:List α},(l.map f).Nodup→ ∀ {a b:α},a∈l→b∈l→f a=f b→a=b
  | [],_,a,_,h,_,_=>by simp at h
  | x::r,h,a,b,ha,hb,e=>by
    rw [List.map_cons,List.nodup_cons] at h
    rcases List.mem_cons.1 ha with h1| h1<;>rcases List.mem_cons.1 hb with h2| h2
    · rw [h1,h2]
    · exact absurd (List.mem_map.2 ⟨b,h2,by rw [← e,h1]⟩) h.1
    · exact absurd (List.mem_map.2 ⟨a,h1,by rw [e,h2]⟩) h.1
    · exact nodup_inj h.2 h1 h2 e
theorem BMem.inA (_:BMem F w Y hd g) {p:qn×(Nat×List (qn×(Int×Int)))} (hp:p∈g.AA):p.2.1∈g.maps:=List.mem_append_right _ (List.mem_map.2 ⟨p,hp,rfl⟩)
theorem BMem.ne5 (H:BMem F w Y hd g):g.bn≠g.bp∧g.bn≠g.bf∧g.bn≠g.bv∧g.bn≠g.ba∧g.bp≠g.bf∧g.bp≠g.bv∧g.bp≠g.ba∧g.bf≠g.bv∧g.bf≠g.ba∧g.bv≠g.ba:=by
  have d:=H.dist
  unfold Gh.maps at d
  rw [List.nodup_append] at d
  have e:=d.1
  simp only [List.nodup_cons,List.mem_cons,List.not_mem_nil,or_false,not_or] at e
  exact ⟨e.1.1,e.1.2.1,e.1.2.2.1,e.1.2.2.2,e.2.1.1,e.2.1.2.1,e.2.1.2.2,e.2.2.1.1,e.2.2.1.2,e.2.2.2.1⟩
theorem BMem.neA (H:BMem F w Y hd g) {p:qn×(Nat×List (qn×(Int×Int)))} (hp:p∈g.AA):p.2.1≠g.bn∧p.2.1≠g.bp∧p.2.1≠g.bf∧p.2.1≠g.bv∧p.2.1≠g.ba:=by
  have d:=H.dist
  unfold Gh.maps at d
  rw [List.nodup_append] at d
  have e:=d.2.2
  have h: ∀ b∈ [g.bn,g.bp,g.bf,g.bv,g.ba],p.2.1≠b:=fun b hb e'=>e b hb p.2.1 (List.mem_map.2 ⟨p,hp,rfl⟩) e'.symm
  exact ⟨h _ (by simp),h _ (by simp),h _ (by simp),h _ (by simp),h _ (by simp)⟩
theorem BMem.nodupA (H:BMem F w Y hd g):(g.AA.map (·.2.1)).Nodup:=by
  have d:=H.dist
  unfold Gh.maps at d
  rw [List.nodup_append] at d
  exact d.2.1
theorem BMem.turn (H:BMem F w Y hd g) {b:Nat} (hb:b∈g.maps) (hk:Kept (fun x=>x=b) w w'):
    (∀ b,F b→b < w'.heap.size)∧w'.heap[Y]? =some (.cells (boxCells hd g) 122 (0,0))∧(∀ p∈g.NN,NodeAt F w' p.2.1 p.2.2)∧(∀ p∈g.PP,qgx F w' p.2.1 p.2.2)∧(∀ p∈g.VV,RowAt F w' p.2)∧
      (∀ b',b'≠b→ ∀ K L,qai Tryz.prog w K b' L→qai Tryz.prog w' K b' L)∧ChanAt F w' g.bc g.WW:=
  ⟨fun b hf=>Nat.lt_of_lt_of_le (H.lt b hf) hk.size,by rw [hk.block Y (qo H.box) (H.ny hb)];exact H.box,fun p hp=>(H.nn p hp).kept hk (H.off hb _) (fun _ h=>h),
    fun p hp=>(H.pp p hp).kept hk (H.off hb _) ((H.pp p hp).off (H.off hb _)) (fun _ h=>h),fun p hp=>(H.vv p hp).kept hk (H.off hb _) (fun _ h=>h),fun b' hne K L hm=>hm.kept hk hne,H.ch.kept hk (H.ch.nmap (H.isMap hb)) (H.off hb _) (fun _ h=>h)⟩
theorem BMem.setV (H:BMem F w Y hd g) (hk:Kept (fun x=>x=g.bv) w w') {VV:List (qn×qba)} (hm:qai Tryz.prog w' 9 g.bv (mapV qba.val VV)) (hv: ∀ p∈VV,RowAt F w' p.2):BMem F w' Y hd { g with VV:=VV }:=by
  have n:=H.ne5
  obtain ⟨t1,t2,t3,t4,t5,t6,t7⟩:=H.turn (by simp [Gh.maps]) hk
  exact ⟨t1,H.fy,H.fm,t2,t6 _ n.2.2.1 _ _ H.nd,t6 _ n.2.2.2.2.2.1 _ _ H.pd,t6 _ n.2.2.2.2.2.2.2.1 _ _ H.fr,hm,t6 _ (Ne.symm n.2.2.2.2.2.2.2.2.2) _ _ H.an,t3,t4,hv,fun p hp=>t6 _ (H.neA hp).2.2.2.1 _ _ (H.aa p hp),H.dist,H.ppd,t7⟩
theorem BMem.setF (H:BMem F w Y hd g) (hk:Kept (fun x=>x=g.bf) w w') {FF:List (qn×Unit)} (hm:qai Tryz.prog w' 9 g.bf (mapV (fun _=> .agg #[]) FF)):BMem F w' Y hd { g with FF:=FF }:=by
  have n:=H.ne5
  obtain ⟨t1,t2,t3,t4,t5,t6,t7⟩:=H.turn (by simp [Gh.maps]) hk
  exact ⟨t1,H.fy,H.fm,t2,t6 _ n.2.1 _ _ H.nd,t6 _ n.2.2.2.2.1 _ _ H.pd,hm,t6 _ (Ne.symm n.2.2.2.2.2.2.2.1) _ _ H.vw,t6 _ (Ne.symm n.2.2.2.2.2.2.2.2.1) _ _ H.an,t3,t4,t5,fun p hp=>t6 _ (H.neA hp).2.2.1 _ _ (H.aa p hp),H.dist,H.ppd,t7⟩
theorem BMem.setN (H:BMem F w Y hd g) (hk:Kept (fun x=>x=g.bn) w w') {NN:List (qn×(Value×qbb))} (hm:qai Tryz.prog w' 9 g.bn (mapV (·.1) NN)) (hv: ∀ p∈NN,NodeAt F w' p.2.1 p.2.2):BMem F w' Y hd { g with NN:=NN }:=by
  have n:=H.ne5
  obtain ⟨t1,t2,t3,t4,t5,t6,t7⟩:=H.turn (by simp [Gh.maps]) hk
  exact ⟨t1,H.fy,H.fm,t2,hm,t6 _ (Ne.symm n.1) _ _ H.pd,t6 _ (Ne.symm n.2.1) _ _ H.fr,t6 _ (Ne.symm n.2.2.1) _ _ H.vw,t6 _ (Ne.symm n.2.2.2.1) _ _ H.an,hv,t4,t5,fun p hp=>t6 _ (H.neA hp).1 _ _ (H.aa p hp),H.dist,H.ppd,t7⟩
theorem BMem.setP (H:BMem F w Y hd g) (hk:Kept (fun x=>x=g.bp) w w') {PP:List (qn×(Nat×qag))} (hm:qai Tryz.prog w' 9 g.bp (mapV (fun x=>ptrV x.1) PP)) (hv: ∀ p∈PP,qgx F w' p.2.1 p.2.2) (hd':(PP.map (·.2.1)).Nodup):
    BMem F w' Y hd { g with PP:=PP }:=by
  have n:=H.ne5
  obtain ⟨t1,t2,t3,t4,t5,t6,t7⟩:=H.turn (by simp [Gh.maps]) hk
  exact ⟨t1,H.fy,H.fm,t2,t6 _ n.1 _ _ H.nd,hm,t6 _ (Ne.symm n.2.2.2.2.1) _ _ H.fr,t6 _ (Ne.symm n.2.2.2.2.2.1) _ _ H.vw,t6 _ (Ne.symm n.2.2.2.2.2.2.1) _ _ H.an,t3,hv,t5,fun p hp=>t6 _ (H.neA hp).2.1 _ _ (H.aa p hp),H.dist,hd',t7⟩
def qda (AA:List (qn×(Nat×List (qn×(Int×Int))))) (k:qn) (l:List (qn×(Int×Int))):List (qn×(Nat×List (qn×(Int×Int)))):=AA.map fun p=>(p.1,(p.2.1,if p.1==k then l else p.2.2))
theorem setInner_blocks (AA:List (qn×(Nat×List (qn×(Int×Int))))) (k:qn) (l:List (qn×(Int×Int))):(qda AA k l).map (·.2.1)=AA.map (·.2.1):=by simp [qda]
theorem setInner_raw (AA:List (qn×(Nat×List (qn×(Int×Int))))) (k:qn) (l:List (qn×(Int×Int))):mapV (fun x=>Value.map (some x.1)) (qda AA k l)=mapV (fun x=>Value.map (some x.1)) AA:=by simp [qda,mapV]
theorem BMem.setI (H:BMem F w Y hd g) {k:qn} {x:Nat×List (qn×(Int×Int))} (hx:(k,x)∈g.AA) (hs:g.AA.Pairwise fun p q=>p.1≠q.1) (hk:Kept (fun b=>b=x.1) w w') {l:List (qn×(Int×Int))} (hm:qai Tryz.prog w' 9 x.1 (mapV ansV l)):
    BMem F w' Y hd { g with AA:=qda g.AA k l }:=by
  have hin:=H.inA hx
  obtain ⟨t1,t2,t3,t4,t5,t6,t7⟩:=H.turn hin hk
  have n:=H.neA hx
  have hmaps:({ g with AA:=qda g.AA k l }:Gh).maps=g.maps:=by simp only [Gh.maps,setInner_blocks]
  refine ⟨t1,H.fy,fun b hb=>H.fm b (by rw [← hmaps];exact hb),t2,t6 _ (Ne.symm n.1) _ _ H.nd,t6 _ (Ne.symm n.2.1) _ _ H.pd,t6 _ (Ne.symm n.2.2.1) _ _ H.fr,t6 _ (Ne.symm n.2.2.2.1) _ _ H.vw,?_,t3,t4,t5,?_,by rw [hmaps];exact H.dist,H.ppd,t7⟩
  · show qai _ _ _ _ (mapV _ (qda g.AA k l))
    rw [setInner_raw]
    exact t6 _ (Ne.symm n.2.2.2.2) _ _ H.an
  · intro p hp
    obtain ⟨q,hq,rfl⟩:=List.mem_map.1 hp
    dsimp only
    by_cases e:q.1=k
    · have hqx:q.2=x:=by
        have h1:=qac hs (k:=q.1) (v:=q.2) hq
        have h2:=qac hs hx
        rw [e,h2] at h1
        exact (Option.some.inj h1).symm
      rw [hqx,if_pos (by simpa using e)]
      exact hm
    · rw [if_neg (by simpa using e)]
      refine t6 _ (fun eb=>e ?_) _ _ (H.aa q hq)
      rw [nodup_inj H.nodupA hq hx eb]
end
end
section
open Go.RowKit Go.Maps
theorem kindK:Keyed Tryz.prog 158:=Keyed.of_law (deep_law_gate (by kernel_rfl) (Nat.le_of_ble_eq_true (by kernel_rfl)) (Nat.le_of_ble_eq_true (by kernel_rfl)) (by kernel_rfl) (by kernel_rfl))
theorem strInv {key:Value} {kl:Lit} (h:keyOf Tryz.prog 9 key=some kl): ∃ x,key= .string x:=by
  have hu:=Tryz.underlying9
  cases key<;>simp [keyOf,hu,mapKey] at h
  exact ⟨_,rfl⟩
def qcm (f:qn→qn→Bool) (AA:List (qn×(Nat×List (qn×(Int×Int))))):List (qn×(Nat×List (qn×(Int×Int)))):=AA.map fun p=>(p.1,(p.2.1,p.2.2.filter fun q=> !f p.1 q.1))
def Gh.forget (g:Gh) (k:qn):Gh:= { g with VV:=delL g.VV k,AA:=qcm (fun _ x=>(getL g.NN x).isSome&&nbrB g.nodes k x) g.AA }
theorem strike_none {f:qn→qn→Bool} (h: ∀ k x,f k x=false) (AA:List (qn×(Nat×List (qn×(Int×Int))))):qcm f AA=AA:=by
  unfold qcm
  have: ∀ p∈AA,(p.1,(p.2.1,p.2.2.filter fun q=> !f p.1 q.1))=p:=fun p _=>by simp [h,List.filter_eq_self.2]
  exact (List.map_congr_left this).trans (List.map_id _)
theorem qgf {f f':qn→qn→Bool} (h: ∀ k x,f k x=f' k x) (AA:List (qn×(Nat×List (qn×(Int×Int))))):qcm f AA=qcm f' AA:=by
  have:f=f':=funext fun k=>funext fun x=>h k x
  rw [this]
theorem strike_congr_mem {f f':qn→qn→Bool} (AA:List (qn×(Nat×List (qn×(Int×Int))))) (h: ∀ p∈AA,∀ x,f p.1 x=f' p.1 x):qcm f AA=qcm f' AA:=by
  unfold qcm
  apply List.map_congr_left
  intro p hp
  simp only [Prod.mk.injEq,true_and]
  apply List.filter_congr
  intro q _
  rw [h p hp]
theorem qhb (f:qn→qn→Bool) (AA:List (qn×(Nat×List (qn×(Int×Int))))):(qcm f AA).map (·.2.1)=AA.map (·.2.1):=by simp [qcm]
theorem strike_raw (f:qn→qn→Bool) (AA:List (qn×(Nat×List (qn×(Int×Int))))):mapV (fun x=>Value.map (some x.1)) (qcm f AA)=mapV (fun x=>Value.map (some x.1)) AA:=by simp [qcm,mapV]
theorem strike_step (f:qn→qn→Bool) (AA:List (qn×(Nat×List (qn×(Int×Int))))) {k o:qn} {x:Nat×List (qn×(Int×Int))} (hx:(k,x)∈qcm f AA) (hs:AA.Pairwise fun p q=>p.1≠q.1):
    qda (qcm f AA) k (delL x.2 o)=qcm (fun k' y=>f k' y || (k'==k&&y==o)) AA:=by
  have hs':(qcm f AA).Pairwise fun p q=>p.1≠q.1:=by
    unfold qcm
    rw [List.pairwise_map]
    exact hs
  unfold qda
  apply List.ext_getElem
  · simp [qcm]
  intro i h1 h2
  simp only [List.getElem_map,qcm]
  have hi:i < AA.length:=by simpa [qcm] using h1
  have he:AA[i].1=k→x.2=AA[i].2.2.filter fun q=> !f AA[i].1 q.1:=fun e=>by
    have m:(AA[i].1,(AA[i].2.1,AA[i].2.2.filter fun q=> !f AA[i].1 q.1))∈qcm f AA:=List.mem_map.2 ⟨AA[i],List.getElem_mem hi,rfl⟩
    have g1:=qac hs' m
    rw [e,qac hs' hx] at g1
    rw [Option.some.inj g1,e]
  by_cases e:AA[i].1=k
  · rw [if_pos (by simpa using e)]
    simp only [Prod.mk.injEq,true_and]
    rw [he e]
    unfold delL
    rw [List.filter_filter]
    apply List.filter_congr
    intro q _
    simp only [e,beq_self_eq_true,Bool.true_and,Bool.not_or]
    rw [Bool.and_comm]
  · rw [if_neg (by simpa using e)]
    simp only [Prod.mk.injEq,true_and]
    apply List.filter_congr
    intro q _
    have:(AA[i].1==k)=false:=by simpa using e
    rw [this]
    simp
def Gh.forgot (g:Gh) (k:qn) (todo:qn→Bool):Gh:= { g with VV:=delL g.VV k,AA:=qcm (fun _ x=>(getL g.NN x).isSome&& !todo x&&nbrB g.nodes k x) g.AA }
def Gh.forgot2 (g:Gh) (k o:qn) (todo todo2:qn→Bool):Gh:=
  { g with VV:=delL g.VV k,AA:=qcm (fun k' x=>((getL g.NN x).isSome&& !todo x&&nbrB g.nodes k x) || ((getL g.AA k').isSome&& !todo2 k'&&x==o)) g.AA }
section
variable {F:Nat→Prop} {w:World} {Y:Nat} {hd:Head} {g:Gh}
theorem BMem.distA (H:BMem F w Y hd g):g.AA.Pairwise fun p q=>p.1≠q.1:=(qbq.1 (H.an.sorted kindK)).distinct
theorem BMem.sortN (H:BMem F w Y hd g):qad g.NN:=qbq.1 (H.nd.sorted strK)
theorem BMem.sortP (H:BMem F w Y hd g):qad g.PP:=qbq.1 (H.pd.sorted strK)
theorem BMem.sortV (H:BMem F w Y hd g):qad g.VV:=qbq.1 (H.vw.sorted strK)
theorem BMem.sortF (H:BMem F w Y hd g):qad g.FF:=qbq.1 (H.fr.sorted strK)
theorem forgot_start (g:Gh) (k:qn):g.forgot k (fun x=>(getL (mapV (·.1) g.NN) x).isSome)= { g with VV:=delL g.VV k }:=by
  unfold Gh.forgot
  rw [strike_none]
  intro k' x
  simp only [qz]
  cases getL g.NN x<;>simp
theorem forgot_end {g:Gh} {k:qn} {todo:qn→Bool} (h: ∀ x,todo x=false):g.forgot k todo=g.forget k:=by
  unfold Gh.forgot Gh.forget
  rw [qgf fun _ x=> ?_]
  simp [h]
theorem forgot_skip {g:Gh} {k o:qn} {todo:qn→Bool} (h:nbrB g.nodes k o=false):g.forgot k (fun z=>todo z&& !(z==o))=g.forgot k todo:=by
  unfold Gh.forgot
  rw [qgf fun _ x=> ?_]
  by_cases e:x=o
  · subst e
    simp [h]
  · have:(x==o)=false:=by simpa using e
    simp [this]
theorem forgot2_start {g:Gh} {k o:qn} {todo:qn→Bool}:g.forgot2 k o todo (fun x=>(getL (mapV (fun x=>Value.map (some x.1)) (g.forgot k todo).AA) x).isSome)=g.forgot k todo:=by
  unfold Gh.forgot2 Gh.forgot
  dsimp only
  rw [qgf fun k' x=> ?_]
  rw [qz]
  have:(getL (qcm (fun _ x=>(getL g.NN x).isSome&& !todo x&&nbrB g.nodes k x) g.AA) k').isSome=(getL g.AA k').isSome:=by
    have hr:=congrArg (fun l=>(getL l k').isSome) (strike_raw (fun _ x=>(getL g.NN x).isSome&& !todo x&&nbrB g.nodes k x) g.AA)
    simpa only [qz,Option.isSome_map] using hr
  simp only [Option.isSome_map,this]
  cases (getL g.AA k').isSome<;>simp
theorem forgot2_end {g:Gh} {k o:qn} {todo todo2:qn→Bool} (h: ∀ x,todo2 x=false) (ho:(getL g.NN o).isSome=true) (hn:nbrB g.nodes k o=true):g.forgot2 k o todo todo2=g.forgot k (fun z=>todo z&& !(z==o)):=by
  unfold Gh.forgot2 Gh.forgot
  rw [strike_congr_mem _ fun p hp x=> ?_]
  have hA:(getL g.AA p.1).isSome=true:=by
    cases hg:getL g.AA p.1
    · exact absurd rfl (qec.1 hg p hp)
    · rfl
  rw [hA,h]
  by_cases e:x=o
  · subst e
    simp [ho,hn]
  · have:(x==o)=false:=by simpa using e
    simp [this]
theorem forgot2_step {g:Gh} {k o kb:qn} {todo todo2:qn→Bool} {x:Nat×List (qn×(Int×Int))} (hs:g.AA.Pairwise fun p q=>p.1≠q.1) (hx:(kb,x)∈(g.forgot2 k o todo todo2).AA):
    { g.forgot2 k o todo todo2 with AA:=qda (g.forgot2 k o todo todo2).AA kb (delL x.2 o) }=g.forgot2 k o todo (fun z=>todo2 z&& !(z==kb)):=by
  unfold Gh.forgot2 at hx ⊢
  dsimp only at hx ⊢
  rw [strike_step _ _ hx hs,qgf fun k' y=> ?_]
  have hA:(getL g.AA kb).isSome=true:=by
    cases hg:getL g.AA kb
    · obtain ⟨q,hq,e⟩:=List.mem_map.1 hx
      have:q.1=kb:=congrArg Prod.fst e
      exact absurd this (qec.1 hg q hq)
    · rfl
  by_cases e:k'=kb
  · subst e
    rw [hA]
    simp
    cases (y==o)<;>simp
  · have:(k'==kb)=false:=by simpa using e
    simp [this]
theorem rawMapInv {α:Type} {L:List (qn×(Nat×α))} {kb:qn} {v:Value} (h:getL (mapV (fun x=>Value.map (some x.1)) L) kb=some v): ∃ c,v=Value.map (some c):=by
  rw [qz] at h
  cases hg:getL L kb with
  | none=>rw [hg] at h;cases h
  | some x=>rw [hg] at h;exact ⟨x.1,(Option.some.inj h).symm⟩
def Gh.lore (g:Gh) (b:Nat):Prop:=b=g.bv∨b∈g.AA.map (·.2.1)
theorem BMem.loreF (H:BMem F w Y hd g) {b:Nat} (h:g.lore b):F b:=by
  rcases h with rfl| h
  · exact H.fm _ (by simp [Gh.maps])
  · exact H.fm _ (List.mem_append_right _ h)
theorem forget_any (H:BMem F w Y hd g) (s:ByteArray) (hs:s.size≤maxLen):
    Calls Tryz.prog 40 #[.pointer (some ⟨Y,0,none⟩),.string s] w fun e w'=>e= .returned (.tuple #[])∧BMem F w' Y hd (g.forget (ky s))∧Kept g.lore w w':=by
  have hx:=H.cV
  have HdA:Hid (g.AA.Pairwise fun p q=>p.1≠q.1):=H.distA
  have HF:Hid (∀ b,F b→b < w.heap.size):=H.lt
  have Hl:Hid (∀ b,g.lore b→F b):=fun b h=>H.loreF h
  have Hnl:Hid (¬ g.lore g.bn):=by
    intro h
    rcases h with h| h
    · exact H.ne5.2.2.1 h
    · obtain ⟨p,hp,e⟩:=List.mem_map.1 h
      exact (H.neA hp).1 e
  go_enter Tryz.func40,Tryz.ntmps40
  go_wp2_with (first
    | (at_delete;refine wpL_drop _ rfl _ _ 115 9 rfl 188 strK Tryz.underlying115 g.bv _ rfl H.vw _ (ky s) rfl (keyS s hs) ?_;intro w1 hm1 ht1 _;rw [qeu] at hm1;have hk1:=Kept.turned ht1;have H1:BMem F w1 Y hd { g with VV:=delL g.VV (ky s) }:=H.setV hk1 hm1 (fun p hp=>((H.vv p (qd7.1 hp).1).kept hk1 (H.off (by simp [Gh.maps]) _) (fun _ h=>h)));have hx1:=H1.cN)
    | (at_range;refine qgz _ rfl _ 112 rfl 9 127 strK Tryz.underlying112 g.bn _ rfl H1.nd ?_;intro w2 hr2 hb2 hs2))
  have K2:Hid (Kept g.lore w w2):=(hk1.mono (fun i _ e=> .inl e)).trans (Kept.of_below (F:=qq) hb2) (fun _ _ h=>h.elim)
  have H2:=H1.below hb2
  rw [← forgot_start] at H2
  have hr:w.heap.size≤w1.heap.size:=hk1.size
  obtain ⟨r,hrr⟩: ∃ r,r=w1.heap.size:=⟨_,rfl⟩
  rw [← hrr] at hr2 hr
  have HR:Hid (r=w1.heap.size):=hrr
  clear hs2 hb2 hx1 H1 hk1 ht1 hm1 hx
  rw [← hrr]
  clear hrr
  go_loopw [4] (fun _ wr=> ∃ todo,qdx Tryz.prog wr 9 g.bn r (mapV (·.1) g.NN) todo∧BMem F wr Y hd (g.forgot (ky s) todo)∧Kept g.lore w wr) (fun _ wr=>wr.rangeLeft g.bn r)
  case atStart=>exact ⟨_,hr2,H2,K2.out⟩
  case round=>
    obtain ⟨todo,hrg,hB,hK⟩:=hrel
    have HK:Hid (Kept g.lore w wr):=hK
    clear hK
    go_wp2_with (at_next;refine qe5 _ rfl _ rfl 9 strK Value.string (fun v:Value=>v) g.bn r _ todo (fun _ _=>strInv) (fun _ v _=>⟨v,rfl⟩) rfl hrg ?_ ?_)
    · intro hl0
      rw [forgot_end hl0] at hB
      go_wp2
      go_end0
      exact ⟨rfl,hB,HK.out⟩
    · intro x c kb w3 hkey htd hget hrg3 hlt3 hk3 hs3 hen
      obtain ⟨e3,hkl⟩:=qgh hkey
      simp only [Value.string.injEq] at e3
      obtain ⟨y,rfl⟩: ∃ y,kb=ky y:=⟨bs kb,(qga kb).symm⟩
      rw [bs_ky] at e3
      subst e3
      have hys:x.size≤maxLen:=by rw [← qdu];exact hkl
      have HsN:Hid ((getL g.NN (ky x)).isSome=true):=by
        show (getL g.NN (ky x)).isSome=true
        rw [qz] at hget
        cases hgn:getL g.NN (ky x)
        · rw [hgn] at hget;cases hget
        · rfl
      have hB3:=hB.kept hk3 (fun b hb e=>by have:=HF.out b hb;omega) (fun _ h=>h) (fun b hb=>Nat.lt_of_lt_of_le (hB.lt b hb) hk3.size)
      have HK3:Hid (Kept g.lore w w3):=HK.out.trans hk3 (fun i hi e=>by omega)
      have Hlt:Hid (w3.rangeLeft g.bn r < wr.rangeLeft g.bn r):=hlt3
      clear hget htd hkey hkl hlt3 hk3 hs3 hrg hB
      have hx3:=hB3.cA
      have hY3:=hB3.lt Y hB3.fy
      have c1:=nbr_any hB3 s x hs hys
      cases hE:nbrB g.nodes (ky s) (ky x)
      · have HS:Hid (g.forgot (ky s) (fun z=>todo z&& !(z==ky x))=g.forgot (ky s) todo):=forgot_skip hE
        rw [show nbrB (g.forgot (ky s) todo).nodes (ky s) (ky x)=false from hE] at c1
        clear hE
        go_wp2_with (go_at_call 69;refine c1.mono ?_;rintro e w4 ⟨rfl,hb4⟩)
        go_roundw
        case rel=>exact ⟨_,hrg3.kept (Kept.of_below (F:=qq) hb4) id id,by rw [HS.out];exact hB3.below hb4,HK3.out.trans (Kept.of_below (F:=qq) hb4) (fun _ _ h=>h.elim)⟩
        case measure=>rw [qal hrg3 (Kept.of_below (F:=qq) hb4) id id];exact Hlt.out
      · have HE:Hid (nbrB g.nodes (ky s) (ky x)=true):=hE
        rw [show nbrB (g.forgot (ky s) todo).nodes (ky s) (ky x)=true from hE] at c1
        clear hE
        go_wp2_with (first
          | (go_at_call 69;refine c1.mono ?_;rintro e w4 ⟨rfl,hb4⟩;have hB4:=hB3.below hb4;have hx4:=hB4.cA)
          | (at_range;refine qgz _ rfl _ 116 rfl 158 159 kindK Tryz.underlying116 g.ba _ rfl hB4.an ?_;intro w5 hr5 hb5 hs5))
        have hraw:mapV (fun x=>Value.map (some x.1)) (g.forgot (ky s) todo).AA=mapV (fun x=>Value.map (some x.1)) g.AA:=by unfold Gh.forgot;dsimp only;exact strike_raw (fun _ y=>(getL g.NN y).isSome&& !todo y&&nbrB g.nodes (ky s) y) g.AA
        have hB5:=hB4.below hb5
        rw [← forgot2_start (o:=ky x),hraw] at hB5
        rw [hraw] at hr5
        have hb45:=qj hb4 hb5
        have hrg5:=hrg3.kept (Kept.of_below (F:=qq) hb45) id id
        have hK5:=HK3.out.trans (Kept.of_below (F:=qq) hb45) (fun _ _ h=>h.elim)
        have hlt5:w5.rangeLeft g.bn r < wr.rangeLeft g.bn r:=by rw [qal hrg3 (Kept.of_below (F:=qq) hb45) id id];exact Hlt.out
        obtain ⟨q,hqq⟩: ∃ q,q=w4.heap.size:=⟨_,rfl⟩
        have hq1:w.heap.size≤q:=by have:=HK3.out.size;have:=hb4.size;omega
        have hq2:r < q:=by have:=hrg3.lt;have:=hb4.size;omega
        rw [← hqq] at hr5
        rw [← hqq]
        have HR5:Hid (qdx Tryz.prog w5 158 g.ba q (mapV (fun x=>Value.map (some x.1)) g.AA) fun x=>(getL (mapV (fun x=>Value.map (some x.1)) g.AA) x).isSome):=hr5
        have HRN:Hid (qdx Tryz.prog w5 9 g.bn r (mapV (·.1) g.NN) (fun z=>todo z&& !(z==ky x))):=hrg5
        have HB5:Hid (BMem F w5 Y hd (g.forgot2 (ky s) (ky x) todo fun x=>(getL (mapV (fun x=>Value.map (some x.1)) g.AA) x).isSome)):=hB5
        have HK5:Hid (Kept g.lore w w5):=hK5
        have HL5:Hid (w5.rangeLeft g.bn r < wr.rangeLeft g.bn r):=hlt5
        clear hr5 hrg5 hB5 hK5 hlt5 hqq hb45 hraw hs5 hb5 hx4 hB4 hb4 hY3 hx3 hB3 hrg3 hen
        go_frame
        go_loopw [6] (fun _ wi=> ∃ todo2,qdx Tryz.prog wi 158 g.ba q (mapV (fun x=>Value.map (some x.1)) g.AA) todo2∧qdx Tryz.prog wi 9 g.bn r (mapV (·.1) g.NN) (fun z=>todo z&& !(z==ky x))∧BMem F wi Y hd (g.forgot2 (ky s) (ky x) todo todo2)∧
          Kept g.lore w wi∧wi.rangeLeft g.bn r < wr.rangeLeft g.bn r) (fun _ wi=>wi.rangeLeft g.ba q)
        case atStart=>exact ⟨_,HR5.out,HRN.out,HB5.out,HK5.out,HL5.out⟩
        case round=>
          clear HR5 HRN HB5 HK5 HL5
          obtain ⟨todo2,hrgA,hrgN,hBi,hKi,hLi⟩:=hrel
          have HKi:Hid (Kept g.lore w wr):=hKi
          have HLi:Hid (_ < _):=hLi
          clear hKi hLi
          go_wp2_with (at_next;refine qe5 _ rfl _ rfl 158 kindK (fun v:Value=>v) (fun b:Nat=>Value.map (some b)) g.ba q _ todo2 (fun key _ _=>⟨key,rfl⟩) (fun kb v h=>rawMapInv h) rfl hrgA ?_ ?_)
          · intro hl0
            rw [forgot2_end hl0 HsN.out HE.out] at hBi
            go_wp2
            go_roundw
            case rel=>exact ⟨_,hrgN,hBi,HKi.out⟩
            case measure=>exact HLi.out
          · intro key bm kb2 w6 hkey2 htd2 hget2 hrg6 hlt6 hk6 hs6 hen6
            have hF6: ∀ b,F b→b≠q:=fun b hb=>by have:=HF.out b hb;omega
            have hB6:=hBi.kept hk6 (fun b hb e=>hF6 b hb e) (fun _ h=>h) (fun b hb=>Nat.lt_of_lt_of_le (hBi.lt b hb) hk6.size)
            have hN6:=hrgN.kept hk6 (hF6 _ (hBi.fm g.bn (by simp [Gh.maps,Gh.forgot2]))) (by omega)
            have hL6:=qal hrgN hk6 (hF6 _ (hBi.fm g.bn (by simp [Gh.maps,Gh.forgot2]))) (by omega)
            have hK6:=HKi.out.trans hk6 (fun i hi e=>by omega)
            have hL6':=HLi.out
            rw [← hL6] at hL6'
            obtain ⟨x2,hx2,hx2b⟩: ∃ x2,(kb2,x2)∈(g.forgot2 (ky s) (ky x) todo todo2).AA∧x2.1=bm:=by
              have:getL (mapV (fun x=>Value.map (some x.1)) (g.forgot2 (ky s) (ky x) todo todo2).AA) kb2=some (Value.map (some bm)):=by
                unfold Gh.forgot2
                rw [strike_raw]
                exact hget2
              rw [qz] at this
              cases hg:getL (g.forgot2 (ky s) (ky x) todo todo2).AA kb2 with
              | none=>rw [hg] at this;cases this
              | some x2=>
                rw [hg] at this
                simp only [Option.map_some,Option.some.injEq,Value.map.injEq] at this
                exact ⟨x2,qar hg,this⟩
            subst hx2b
            have hdA:(g.forgot2 (ky s) (ky x) todo todo2).AA.Pairwise fun p q=>p.1≠q.1:=hB6.distA
            have hFx:F x2.1:=hB6.fm _ (hB6.inA hx2)
            have hlx:g.lore x2.1:= .inr (by
              have h1:x2.1∈(g.forgot2 (ky s) (ky x) todo todo2).AA.map (·.2.1):=List.mem_map.2 ⟨_,hx2,rfl⟩
              unfold Gh.forgot2 at h1
              rw [qhb] at h1
              exact h1)
            have hnx:=hB6.neA hx2
            have hqx:=hF6 _ hFx
            have hrx:x2.1≠r:=by have:=HF.out _ hFx;omega
            have hI:=hB6.aa _ hx2
            have Hm6:Hid (wr.rangeLeft g.ba q > w6.rangeLeft g.ba q):=hlt6
            have HS:Hid (_=_):=forgot2_step HdA.out hx2
            clear hget2 htd2 hkey2 hs6 hlt6 hBi hrgA hrgN hk6 hL6
            go_wp2_with (at_delete;refine wpL_drop _ rfl _ _ 159 9 rfl 178 strK Tryz.underlying159 x2.1 _ rfl hI _ (ky x) rfl (keyS x hys) ?_;intro w7 hm7 ht7 _;rw [qeu] at hm7;have hk7:=Kept.turned ht7;go_frame)
            have hB7:=hB6.setI hx2 hdA hk7 hm7
            rw [HS.out] at hB7
            go_roundw
            case rel=>exact ⟨_,hrg6.kept hk7 (Ne.symm hnx.2.2.2.2) (Ne.symm hqx),hN6.kept hk7 (Ne.symm hnx.1) (Ne.symm hrx),hB7,hK6.trans hk7 (fun i _ e=>by rw [e];exact hlx),by rw [qal hN6 hk7 (Ne.symm hnx.1) (Ne.symm hrx)];exact hL6'⟩
            case measure=>rw [qal hrg6 hk7 (Ne.symm hnx.2.2.2.2) (Ne.symm hqx)];exact Hm6.out
end
end
section
open Go.RowKit Go.Maps
theorem insL_perm {α:Type} (x:qn×α): ∀ L:List (qn×α),(insL x L).Perm (x::L)
  | []=>List.Perm.refl _
  | y::r=>by
    unfold insL
    split
    · exact List.Perm.refl _
    · exact ((insL_perm x r).cons y).trans (List.Perm.swap _ _ _)
theorem nodup_putL {α β:Type} {f:qn×α→β} {L:List (qn×α)} {k:qn} {v:α} (h:(L.map f).Nodup) (hn: ∀ p∈L,f p≠f (k,v)):((putL L k v).map f).Nodup:=by
  unfold putL
  rw [((insL_perm (k,v) (delL L k)).map f).nodup_iff,List.map_cons,List.nodup_cons]
  refine ⟨fun hm=> ?_,List.Nodup.sublist (List.Sublist.map f List.filter_sublist) h⟩
  obtain ⟨p,hp,e⟩:=List.mem_map.1 hm
  exact hn p (qd7.1 hp).1 e
theorem nodup_delL {α β:Type} {f:qn×α→β} {L:List (qn×α)} (k:qn) (h:(L.map f).Nodup):((delL L k).map f).Nodup:=List.Nodup.sublist (List.Sublist.map f List.filter_sublist) h
section
variable {F:Nat→Prop} {w w' w'':World} {Y:Nat} {hd:Head} {g:Gh}
theorem BMem.grows (H:BMem F w Y hd g) (hb:Below w.heap.size w w'):BMem (grow F w w') w' Y hd g:=
  H.kept (Kept.of_below (F:=qq) hb) (fun _ _=>id) (fun _ h=> .inl h) fun b hf=>hf.elim (fun h=>Nat.lt_of_lt_of_le (H.lt b h) hb.size) (fun h=>h.2)
theorem BMem.more (H:BMem F w Y hd g) {F':Nat→Prop} (hF: ∀ b,F b→F' b) (hl: ∀ b,F' b→b < w.heap.size):BMem F' w Y hd g:=H.kept (Kept.refl qq w) (fun _ _=>id) hF hl
def Gh.changed (g:Gh) (k:qn):Gh:=({ g with FF:=putL g.FF k () }:Gh).forget k
theorem qhk (H:BMem F w Y hd g) (s:ByteArray) (hs:s.size≤maxLen) (hF:g.FF.length < 100000):
    Calls Tryz.prog 42 #[.pointer (some ⟨Y,0,none⟩),.string s] w fun e w'=>e= .returned (.tuple #[])∧BMem F w' Y hd (g.changed (ky s))∧Kept (fun b=>b=g.bf∨g.lore b) w w':=by
  have hx:=H.cF
  have hl:(mapV (fun _:Unit=>Value.agg #[]) g.FF).length < maxLen:=by rw [qw];unfold maxLen;omega
  have c1:=fun w1 (H1:BMem F w1 Y hd { g with FF:=putL g.FF (ky s) () })=>forget_any H1 s hs
  go_enter Tryz.func42,Tryz.ntmps42
  go_wp2_with (first
    | (at_mapUpdate;refine wpL_store _ rfl _ _ _ 114 rfl 9 160 strK Tryz.underlying114 g.bf _ rfl H.fr hl _ _ (ky s) rfl rfl (keyS s hs) ?_;intro w1 hm1 ht1;have hm1':qai Tryz.prog w1 9 g.bf (mapV (fun _=> .agg #[]) (putL g.FF (ky s) ())):=by { rw [← qds];exact hm1 };have hk1:=Kept.turned ht1;have H1:=H.setF hk1 hm1')
    | (go_at_call 40;refine (c1 w1 H1).mono ?_;rintro e w2 ⟨rfl,H2,hk2⟩))
  go_end0
  exact ⟨rfl,H2,(hk1.mono (fun i _ e=> .inl e)).trans hk2 (fun i _ h=> .inr h)⟩
end
end
end Go.Proofs.YtchddaafibjmgaaGreat
