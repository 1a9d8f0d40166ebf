import Derived.Test.YtchddaafibjmgaaGreatMA11
import Derived.Deep.WholeRow
import Derived.ChangeKeys
set_option maxRecDepth 100000
set_option maxHeartbeats 20000000
namespace Go.Proofs.YtchddaafibjmgaaGreat
section
open Go.RowKit Go.Maps
theorem Tryz.infoLI:(Tryz.prog.info? 94).map (fun i=>(i.zero,i.size,i.bytes))=some (some (.agg #[.string ⟨#[]⟩,.string ⟨#[]⟩,.bool false,.int .i64 0]),4,48):=by kernel_rfl
def qfj (p:qn×(Nat×qag)):List Value:= [.string (bs p.1),.string (bs p.2.2.node),.bool p.2.2.bound,.int .i64 p.2.2.since]
theorem qby {w:World} {e:TypeId} {s:Nat} {v:Value} {n:Nat} {xs:List Value} (h:w.ownsRow 0 e s v n xs) {b:Nat} (hb:v.ownBlock=some b): ∃ cur,w.heap[b]? =some (.cells cur e (0,0)):=by
  rcases h.2 with ⟨hnil,_⟩| ⟨g,cap,cur,hv,_,hg,_⟩
  · rw [hnil] at hb;simp [Value.ownBlock] at hb
  · rw [hv] at hb
    simp [Value.ownBlock] at hb
    subst hb
    exact ⟨cur,hg⟩
theorem qce {w:World} {e e':TypeId} {s s':Nat} {v v':Value} {n n':Nat} {xs xs':List Value} (h:w.ownsRow 0 e s v n xs) (h':w.ownsRow 0 e' s' v' n' xs') (hne:e≠e') {b:Nat} (hb:v.ownBlock=some b):v'.ownBlock≠some b:=fun hb'=>by
  obtain ⟨c,hc⟩:=qby h hb
  obtain ⟨c',hc'⟩:=qby h' hb'
  rw [hc] at hc'
  simp only [Option.some.injEq,Obj.cells.injEq] at hc'
  exact hne hc'.2.1
theorem lies_any {F:Nat→Prop} {w:World} {Y:Nat} {hd:Head} {g:Gh} (H:BMem F w Y hd g) (hP:g.PP.length≤128) (hpk: ∀ p∈g.PP,p.1.length≤maxLen):
    Calls Tryz.prog 65 #[.pointer (some ⟨Y,0,none⟩)] w fun e w'=> ∃ ao cap,e= .returned (.slice ao g.PP.length cap)∧w'.ownsRow 0 94 4 (.slice ao g.PP.length cap) g.PP.length (g.PP.flatMap qfj)∧(∀ b,(Value.slice ao g.PP.length cap).ownBlock=some b→w.heap.size≤b)∧Below w.heap.size w w':=by
  obtain ⟨i0,hi,hz0,hz1,hz2⟩:=info_parts Tryz.infoLI
  have hx5:=H.cP
  have hY:=H.lt Y H.fy
  have hlen: ∀ W,Below w.heap.size w W→ ∀ ty,(Builtin.len_ #[113] ty #[.map (some g.bp)]).run Tryz.prog W= .ok (.int .i64 g.PP.length) W:=fun W hb ty=>by
    have:=(H.below hb).pd.len Tryz.underlying113 ty
    rwa [qw] at this
  have hlen0:=hlen w (Below.refl _ _)
  have HH:Hid (BMem F w Y hd g):=H
  clear H hlen
  go_enter Tryz.func65,Tryz.ntmps65
  go_wp2_with (first
    | (at_make;refine wpList_make_own _ rfl _ _ 92 rfl 0 94 i0 _ 4 Tryz.underlying92 hi hz0 hz1 _ _ _ g.PP.length rfl rfl rfl (by rw [hz2];omega) (by unfold maxLen;omega) (Nat.zero_le _) ?_;intro w2 hr2 hg2;have hb2:Below w.heap.size w w2:=⟨hg2.os,hg2.tape,hg2.output,hg2.size,fun i hi=>hg2.block i hi (by simp)⟩;have H2:=HH.out.below hb2;have hx2:=H2.cP;have ck:=keysP_any g.bp w2;have cs:=sortedP_any H2.pd (by rw [qw];omega);rw [qw,qeq] at cs)
    | (go_at_call 80;refine ck.mono ?_;rintro e w4 ⟨rfl,rfl⟩)
    | (go_at_call 78;refine cs.mono ?_;rintro e w4 ⟨ao,cap,rfl,hrow,hb4⟩))
  have hb04:=qj hb2 hb4
  have HR4:Hid (w4.ownsRow 0 94 4 (.slice (some ⟨w.heap.size,0,none⟩) 0 g.PP.length) 0 []):=(Kept.of_below (F:=qq) hb4).ownsRow hr2 fun _ _=>id
  have HS4:Hid (w4.ownsRow 0 9 1 (.slice ao g.PP.length cap) g.PP.length (qa9 g.PP)):=hrow
  clear hr2 hg2 hb2 H2 hx2 ck cs hb4 hrow hx5 hlen0
  go_loopw [3,20] (fun o i wr=> ∃ (k:Nat) (oo:Option Addr) (oc:Nat),k≤g.PP.length∧i= .int .i64 k∧o= .slice oo k oc∧wr.ownsRow 0 94 4 (.slice oo k oc) k ((g.PP.take k).flatMap qfj)∧(∀ b,(Value.slice oo k oc).ownBlock=some b→w.heap.size≤b)∧Below w.heap.size w wr∧wr.ownsRow 0 9 1 (.slice ao g.PP.length cap) g.PP.length (qa9 g.PP)) (fun _ i _=>g.PP.length - (intOf i).toNat)
  case atStart=>exact ⟨0,_,_,Nat.zero_le _,rfl,rfl,HR4.out,fun b hb=>by simp [Value.ownBlock] at hb;omega,hb04,HS4.out⟩
  case round=>
    clear HR4 HS4 hb04
    obtain ⟨k,oo,oc,hk,rfl,rfl,hRo,hRf,hbw,hSr⟩:=hrel
    have HRo:Hid (wr.ownsRow 0 94 4 (.slice oo k oc) k ((g.PP.take k).flatMap qfj)):=hRo
    have HRf:Hid (∀ b,(Value.slice oo k oc).ownBlock=some b→w.heap.size≤b):=hRf
    have HSr:Hid (wr.ownsRow 0 9 1 (.slice ao g.PP.length cap) g.PP.length (qa9 g.PP)):=hSr
    clear hRo hRf hSr
    by_cases hlt:k < g.PP.length
    · have hpkk:=hpk g.PP[k] (List.getElem_mem hlt)
      have Hi:=HH.out.below hbw
      obtain ⟨gb,rfl,hg,hcl⟩:=own_at HSr.out (by omega)
      have hcell:wr.cell? ⟨gb,k,none⟩=some (.string (bs g.PP[k].1)):=by
        rw [hcl k hlt]
        simp [qa9,hlt]
      have hP:getL g.PP g.PP[k].1=some g.PP[k].2:=qac Hi.sortP.distinct (show (g.PP[k].1,g.PP[k].2)∈g.PP from List.getElem_mem hlt)
      obtain ⟨hp1,hp2⟩:=Hi.getP hP
      have Hrows:Hid ((g.PP.take (k+1)).flatMap qfj=(g.PP.take k).flatMap qfj++qfj g.PP[k]):=by
        show _=_
        rw [List.take_succ_eq_append_getElem hlt,List.flatMap_append]
        simp
      obtain ⟨E,hE⟩: ∃ E,g.PP[k]=E:=⟨_,rfl⟩
      have HE:Hid (g.PP[k]=E):=hE
      rw [hE] at hpkk hcell hp1 hp2 hP
      clear hE
      obtain ⟨nm,q,x⟩:=E
      dsimp only at hpkk hcell hp1 hp2 hP
      obtain ⟨-,-,-,-,pc6,pc7,pc8,-⟩:=hp2.cells
      have keyNm:keyOf Tryz.prog 9 (.string (bs nm))=some (.string nm):=by rw [keyS _ (by rw [qe1];exact hpkk),qga]
      have mpd:=Hi.pd
      have hx5:=Hi.cP
      obtain ⟨cq,hqb⟩: ∃ c,wr.heap[q]? =some (.cells c 132 (0,0)):=by
        obtain ⟨_,_,h,_⟩:=hp2
        exact ⟨_,h⟩
      have zq:=qo hqb
      have e1: ∀ bd:Bool,∃ ao' cap' w6,(Builtin.append_ #[92,92] 92 #[.slice oo k oc,.slice (some ⟨wr.heap.size,0,none⟩) 1 1]).run Tryz.prog (wr.alloc (.cells #[.string (bs nm),.string (bs x.node),.bool bd,.int .i64 x.since] 94)).drew= .ok (.slice ao' (k+1) cap') w6∧
          w6.ownsRow 0 94 4 (.slice ao' (k+1) cap') (k+1) ((g.PP.take k).flatMap qfj++ [.string (bs nm),.string (bs x.node),.bool bd,.int .i64 x.since])∧Kept (fun b=>(Value.slice oo k oc).ownBlock=some b) (wr.alloc (.cells #[.string (bs nm),.string (bs x.node),.bool bd,.int .i64 x.since] 94)).drew w6∧
          ((Value.slice ao' (k+1) cap').ownBlock=(Value.slice oo k oc).ownBlock∨ ∀ b,(Value.slice ao' (k+1) cap').ownBlock=some b→(wr.alloc (.cells #[.string (bs nm),.string (bs x.node),.bool bd,.int .i64 x.since] 94)).drew.heap.size≤b):=fun bd=>by
        have hblk:(wr.alloc (.cells #[.string (bs nm),.string (bs x.node),.bool bd,.int .i64 x.since] 94)).drew.heap[wr.heap.size]? =some (.cells #[.string (bs nm),.string (bs x.node),.bool bd,.int .i64 x.since] 94 (0,0)):=qm _ _
        obtain ⟨v',w6,hr,r1,r2,r3⟩:=qe8 (P:=Tryz.prog) (wr.alloc (.cells #[.string (bs nm),.string (bs x.node),.bool bd,.int .i64 x.since] 94)).drew 92 92 94 i0 _ 4 48 Tryz.underlying92 hi hz0 hz1 hz2 rfl (by decide) _ k _ ((Kept.of_below (F:=qq) (qi wr _)).drew.ownsRow HRo.out fun _ _=>id) ⟨wr.heap.size,0,none⟩ 1 1 [.string (bs nm),.string (bs x.node),.bool bd,.int .i64 x.since] rfl (fun j u hu=>by
          have ha:(⟨wr.heap.size,0,none⟩:Addr).add j=⟨wr.heap.size,j,none⟩:=by
            unfold Addr.add
            split
            · rename_i h;rw [h]
            · simp
          rw [ha,ql hblk,← hu]
          simp) (by intro u hu;simp at hu;rcases hu with rfl| rfl| rfl| rfl<;>rfl) (by unfold maxLen;omega) (by omega)
        obtain ⟨ao',cap',rfl⟩:=qv r1
        exact ⟨ao',cap',w6,hr,r1,(Kept.refl _ _).grown r2 fun k hk _=>hk,r3⟩
      have hB6: ∀ {bd:Bool} (w6:World),Kept (fun b=>(Value.slice oo k oc).ownBlock=some b) (wr.alloc (.cells #[.string (bs nm),.string (bs x.node),.bool bd,.int .i64 x.since] 94)).drew w6→Below w.heap.size w w6:=fun {bd} w6 hk6=>
        (qj hbw (qi wr (.cells #[.string (bs nm),.string (bs x.node),.bool bd,.int .i64 x.since] 94)).drew).trans (hk6.below (Nat.le_trans hbw.size (by simp)) fun i hi h=>by have:=HRf.out i h;omega)
      have hS6: ∀ {bd:Bool} (w6:World),Kept (fun b=>(Value.slice oo k oc).ownBlock=some b) (wr.alloc (.cells #[.string (bs nm),.string (bs x.node),.bool bd,.int .i64 x.since] 94)).drew w6→w6.ownsRow 0 9 1 (.slice (some ⟨gb,0,none⟩) g.PP.length cap) g.PP.length (qa9 g.PP):=fun {bd} w6 hk6=>
        hk6.ownsRow ((Kept.of_below (F:=qq) (qi wr _)).drew.ownsRow HSr.out fun _ _=>id) fun b hb h=>qce HSr.out HRo.out (by decide) hb h
      clear hcl Hi
      cases hbd:x.bound
      · skip
        have e1:=e1 false
        obtain ⟨ao',cap',w6,e1,r6,k6,fr⟩:=e1
        rw [hbd,show boolI false=0 from rfl] at pc7
        have HB:Hid (x.bound=false):=hbd
        have hne: ∀ b,(Value.slice oo k oc).ownBlock=some b→b≠q:=fun b hb=>by
          rintro rfl
          exact (qby HRo.out hb).elim fun c hc=>by rw [hqb] at hc;simp at hc
        have q6:=fun o=>k6.cell (p:=⟨q,o,none⟩) (by simp;omega) (fun h=>hne q h rfl)
        clear hbd hP hp2
        go_wp2_with (at_lookup;refine qdp _ rfl _ _ 113 rfl 9 129 strK Tryz.underlying113 (qei _) g.bp _ rfl mpd _ nm rfl keyNm _ hp1 ?_)
        go_region_held3 (fun w'=>w'.cell? ⟨q,6,none⟩=some (.string (bs x.node))∧w'.cell? ⟨q,7,none⟩=some (.int .i64 0)∧w'.cell? ⟨q,8,none⟩=some (.int .i64 x.since)) (go_keep)
          (first
            | (refine qeo rfl _ _ 92 rfl _ _ rfl rfl (by exact e1) ?_))
        all_goals go_wp2
        all_goals go_roundw
        all_goals first
          | (refine ⟨k+1,ao',cap',by omega,by go_num,rfl,?_,fun b hb=> ?_,?_,?_⟩
             · rw [Hrows.out]
               simpa [qfj,HE.out,HB.out] using r6
             · rcases fr with hf| hf
               · exact HRf.out b (by rw [← hf];exact hb)
               · have:=hf b hb
                 simp at this
                 have:=hbw.size
                 omega
             · exact hB6 w6 k6
             · exact hS6 w6 k6)
          | (simp [intOf];omega)
      · skip
        have e1:=e1 true
        obtain ⟨ao',cap',w6,e1,r6,k6,fr⟩:=e1
        rw [hbd,show boolI true=1 from rfl] at pc7
        have HB:Hid (x.bound=true):=hbd
        have hne: ∀ b,(Value.slice oo k oc).ownBlock=some b→b≠q:=fun b hb=>by
          rintro rfl
          exact (qby HRo.out hb).elim fun c hc=>by rw [hqb] at hc;simp at hc
        have q6:=fun o=>k6.cell (p:=⟨q,o,none⟩) (by simp;omega) (fun h=>hne q h rfl)
        clear hbd hP hp2
        go_wp2_with (at_lookup;refine qdp _ rfl _ _ 113 rfl 9 129 strK Tryz.underlying113 (qei _) g.bp _ rfl mpd _ nm rfl keyNm _ hp1 ?_)
        go_region_held3 (fun w'=>w'.cell? ⟨q,6,none⟩=some (.string (bs x.node))∧w'.cell? ⟨q,7,none⟩=some (.int .i64 1)∧w'.cell? ⟨q,8,none⟩=some (.int .i64 x.since)) (go_keep)
          (first
            | (refine qeo rfl _ _ 92 rfl _ _ rfl rfl (by exact e1) ?_))
        all_goals go_wp2
        all_goals go_roundw
        all_goals first
          | (refine ⟨k+1,ao',cap',by omega,by go_num,rfl,?_,fun b hb=> ?_,?_,?_⟩
             · rw [Hrows.out]
               simpa [qfj,HE.out,HB.out] using r6
             · rcases fr with hf| hf
               · exact HRf.out b (by rw [← hf];exact hb)
               · have:=hf b hb
                 simp at this
                 have:=hbw.size
                 omega
             · exact hB6 w6 k6
             · exact hS6 w6 k6)
          | (simp [intOf];omega)
    · have hkn:k=g.PP.length:=by omega
      subst hkn
      have hr:=HRo.out
      rw [List.take_length] at hr
      go_wp2
      go_ret
      exact ⟨oo,oc,rfl,hr,HRf.out,hbw⟩
end
section
open Go.RowKit Go.Maps
def qdf:List (qn×qag)→qn→Int
  | [],_=>0
  | p::r,k=>if p.2.node==k then qdf r k+1 else qdf r k
theorem cntOf_bound (l:List (qn×qag)) (k:qn):0≤qdf l k∧qdf l k≤l.length:=by
  induction l with
  | nil=>simp [qdf]
  | cons p r ih=>
    unfold qdf
    simp only [List.length_cons]
    split<;>omega
theorem usedOf_none {l:List (qn×qag)} {k:qn} (h:qdf l k=0):qt l k=(0,0,0):=by
  induction l with
  | nil=>rfl
  | cons p r ih=>
    unfold qdf at h
    unfold qt
    have hb:=cntOf_bound r k
    split at h
    · omega
    · rename_i hn
      rw [if_neg hn]
      exact ih h
theorem usedOf_perm {l l':List (qn×qag)} (h:l.Perm l') (k:qn):qt l k=qt l' k∧qdf l k=qdf l' k:=by
  induction h with
  | nil=>exact ⟨rfl,rfl⟩
  | cons x _ ih=>simp only [qt,qdf,ih.1,ih.2,and_self]
  | swap x y l=>
    simp only [qt,qdf]
    cases (x.2.node==k)<;>cases (y.2.node==k)<;>simp
    omega
  | trans _ _ i1 i2=>exact ⟨i1.1.trans i2.1,i1.2.trans i2.2⟩
theorem done_perm {α:Type} {L:List (qn×α)} {todo:qn→Bool} {kb:qn} {x:α} (hs:L.Pairwise fun p q=>p.1≠q.1) (hx:(kb,x)∈L) (ht:todo kb=true):
    (L.filter fun p=> !(todo p.1&& !(p.1==kb))).Perm ((kb,x)::L.filter fun p=> !todo p.1):=by
  induction L with
  | nil=>simp at hx
  | cons p r ih=>
    rw [List.pairwise_cons] at hs
    rcases List.mem_cons.1 hx with rfl| hx
    · rw [List.filter_cons,List.filter_cons]
      simp only [beq_self_eq_true,Bool.not_true,Bool.and_false,Bool.not_false,if_true,ht,Bool.false_eq_true,if_false]
      have:(r.filter fun p=> !(todo p.1&& !(p.1==kb)))=r.filter fun p=> !todo p.1:=by
        apply List.filter_congr
        intro q hq
        have:(q.1==kb)=false:=by simpa using Ne.symm (hs.1 q hq)
        simp [this]
      rw [this]
    · have hne:(p.1==kb)=false:=by simpa using hs.1 _ hx
      rw [List.filter_cons,List.filter_cons,hne]
      cases todo p.1
      · simp only [Bool.false_and,Bool.not_false,if_true]
        exact ((ih hs.2 hx).cons p).trans (List.Perm.swap _ _ _)
      · simp only [Bool.not_false,Bool.and_self,Bool.not_true,Bool.false_eq_true,if_false]
        exact ih hs.2 hx
def useVal (u:Int×Int×Int) (c:Int):Value:= .agg #[.string ⟨#[]⟩,.int .i64 u.1,.int .i64 u.2.1,.int .i64 u.2.2,.int .i64 c]
theorem zeroUse (w:World):(zeroValue 91).run Tryz.prog w= .ok (.agg #[.string ⟨#[]⟩,.int .i64 0,.int .i64 0,.int .i64 0,.int .i64 0]) w:=by kernel_rfl
def qgb (g:Gh) (todo:qn→Bool):List (qn×qag):=mapV (·.2) (g.PP.filter fun p=> !todo p.1)
theorem doneP_step {g:Gh} {todo:qn→Bool} {kb:qn} {x:Nat×qag} (hs:g.PP.Pairwise fun p q=>p.1≠q.1) (hx:getL g.PP kb=some x) (ht:todo kb=true) (k:qn):
    qt (qgb g fun z=>todo z&& !(z==kb)) k=qt ((kb,x.2)::qgb g todo) k∧qdf (qgb g fun z=>todo z&& !(z==kb)) k=qdf ((kb,x.2)::qgb g todo) k:=
  usedOf_perm (by
    unfold qgb mapV
    exact ((done_perm hs (qar hx) ht).map fun p=>(p.1,p.2.2))) k
def UseMap (ON:List (qn×Value)) (l:List (qn×qag)):Prop:= ∀ k,getL ON k=if qdf l k=0 then none else some (useVal (qt l k) (qdf l k))
theorem UseMap.get {ON:List (qn×Value)} {l:List (qn×qag)} (h:UseMap ON l) (k:qn):(getL ON k).getD (.agg #[.string ⟨#[]⟩,.int .i64 0,.int .i64 0,.int .i64 0,.int .i64 0])= .agg #[.string ⟨#[]⟩,.int .i64 (qt l k).1,.int .i64 (qt l k).2.1,.int .i64 (qt l k).2.2,.int .i64 (qdf l k)]:=by
  rw [h]
  by_cases h0:qdf l k=0
  · rw [if_pos h0,h0,usedOf_none h0]
    rfl
  · rw [if_neg h0]
    rfl
theorem UseMap.put {ON:List (qn×Value)} {l l':List (qn×qag)} {kb:qn} {x:qag} (h:UseMap ON l) (hl: ∀ k,qt l' k=qt ((kb,x)::l) k∧qdf l' k=qdf ((kb,x)::l) k):
    UseMap (putL ON x.node (.agg #[.string ⟨#[]⟩,.int .i64 ((qt l x.node).1+x.n0),.int .i64 ((qt l x.node).2.1+x.n1),.int .i64 ((qt l x.node).2.2+x.n2),.int .i64 (qdf l x.node+1)])) l':=by
  intro k
  rw [(hl k).1,(hl k).2]
  by_cases e:k=x.node
  · subst e
    have hb:=(cntOf_bound l x.node).1
    have h1:qdf ((kb,x)::l) x.node=qdf l x.node+1:=by simp [qdf]
    have h2:qt ((kb,x)::l) x.node=((qt l x.node).1+x.n0,(qt l x.node).2.1+x.n1,(qt l x.node).2.2+x.n2):=by simp [qt]
    rw [qap,h1,h2,if_neg (by omega)]
    rfl
  · have hn:(x.node==k)=false:=by simpa using Ne.symm e
    have h1:qdf ((kb,x)::l) k=qdf l k:=by simp [qdf,hn]
    have h2:qt ((kb,x)::l) k=qt l k:=by simp [qt,hn]
    rw [qaj _ _ e,h1,h2]
    exact h k
end
section
open Go.RowKit Go.Maps
theorem byNode_any {F:Nat→Prop} {w:World} {Y:Nat} {hd:Head} {g:Gh} (H:BMem F w Y hd g) (hS:qg7 g) (hpk: ∀ p∈g.PP,p.2.2.node.length≤maxLen):
    Calls Tryz.prog 77 #[.pointer (some ⟨Y,0,none⟩)] w fun e w'=> ∃ b ON,e= .returned (.map (some b))∧w.heap.size≤b∧qai Tryz.prog w' 9 b ON∧UseMap ON g.pods∧Below w.heap.size w w':=by
  have hmm:= @run_makeMap Tryz.prog
  have hx5:=H.cP
  have hY:=H.lt Y H.fy
  have hb0:=qi w (.map #[] 0)
  have pd0:=(H.below hb0).pd
  have y5:=(H.below hb0).cP
  have HH:Hid (BMem F w Y hd g):=H
  have man:qai Tryz.prog (w.alloc (.map #[] 0)) 9 w.heap.size []:=qai.made Tryz.prog w 9
  have hSp:=hS.pods
  have hSn:=hS.need
  clear H hS
  go_enter Tryz.func77,Tryz.ntmps77
  go_wp2_with (at_range;refine qg9 _ rfl _ 113 rfl 9 129 strK Tryz.underlying113 g.bp _ rfl (by exact pd0) ?_;intro w2 hr2 hn2 hb2 hs2)
  simp only [World.size_alloc] at hr2 hn2
  rw [qw] at hn2
  have hB2:Below w.heap.size w w2:=qj hb0 hb2
  have M2:Hid (qai Tryz.prog w2 9 w.heap.size []):=man.kept (Kept.of_below (F:=qq) hb2) id
  clear hs2 hb2 man pd0 hb0 y5 hx5
  try go_frame
  try simp only [World.size_alloc]
  go_loopw [5] (fun _ wr=> ∃ todo ON,qdx Tryz.prog wr 9 g.bp (w.heap.size+1) (mapV (fun x=>ptrV x.1) g.PP) todo∧qai Tryz.prog wr 9 w.heap.size ON∧Below w.heap.size w wr∧UseMap ON (qgb g todo)∧ON.length+wr.rangeLeft g.bp (w.heap.size+1)≤128) (fun _ wr=>wr.rangeLeft g.bp (w.heap.size+1))
  case atStart=>
    refine ⟨_,[],hr2,M2.out,hB2,fun k=> ?_,by rw [hn2];simpa using hSp⟩
    have:qgb g (fun x=>(getL (mapV (fun x=>ptrV x.1) g.PP) x).isSome)= []:=by
      unfold qgb
      have:(g.PP.filter fun p=> !(getL (mapV (fun x=>ptrV x.1) g.PP) p.1).isSome)= []:=by
        rw [List.filter_eq_nil_iff]
        intro p hp
        rw [qz,qac HH.out.sortP.distinct (k:=p.1) (v:=p.2) hp]
        simp
      rw [this]
      rfl
    rw [this]
    rfl
  case round=>
    clear hr2 M2 hB2 hn2
    obtain ⟨todo,ON,hrg,hM,hbw,hU,hlen⟩:=hrel
    have HU:Hid (UseMap ON (qgb g todo)):=hU
    clear hU
    have hbp:g.bp < w.heap.size:=HH.out.lt _ (HH.out.fm g.bp (by simp [Gh.maps]))
    go_wp2_with (at_next;refine qe5 _ rfl _ rfl 9 strK Value.string (fun q:Nat=>Value.pointer (some ⟨q,0,none⟩)) g.bp (w.heap.size+1) _ todo (fun _ _=>strInv) (fun _ v h=>ptrInv h) rfl hrg ?_ ?_)
    · intro hl0
      have hU':UseMap ON g.pods:=by
        have h:=HU.out
        have hd':qgb g todo=g.pods:=by
          unfold qgb Gh.pods
          rw [List.filter_eq_self.2 fun p _=>by rw [hl0];rfl]
        rw [hd'] at h
        exact h
      go_wp2
      go_ret
      exact ⟨w.heap.size,ON,rfl,Nat.le_refl _,hM,hU',hbw⟩
    · intro s c kb w3 hkey htd hget hrg3 hlt3 hk3 hs3 hen
      obtain ⟨z,hz,hzc⟩: ∃ z,getL g.PP kb=some z∧z.1=c:=by
        rw [qz] at hget
        cases hgn:getL g.PP kb with
        | none=>rw [hgn] at hget;cases hget
        | some z=>rw [hgn] at hget;simp [ptrV] at hget;exact ⟨z,rfl,hget⟩
      have hb3:Below w.heap.size w w3:=qel hbw hk3 (by omega)
      have H3:=HH.out.below hb3
      have hM3:=hM.kept hk3 (by omega)
      have Hlt:Hid (w3.rangeLeft g.bp (w.heap.size+1) < wr.rangeLeft g.bp (w.heap.size+1)):=hlt3
      have hmem:=qar hz
      have hp2:=(H3.getP hz).2
      have hdp:=fun k=>doneP_step HH.out.sortP.distinct hz htd k
      have hnl:=hpk _ hmem
      have hnd:=hSn _ hmem
      obtain ⟨q,x⟩:=z
      dsimp only at hzc hnl hnd hp2 hdp
      subst hzc
      obtain ⟨pc0,pc1,pc2,-,pc6,-,-,-⟩:=hp2.cells
      have zq:q < w.heap.size:=by
        obtain ⟨_,_,_,h,_⟩:=hp2
        exact HH.out.lt _ h
      have hsz3:=hb3.size
      have hsz3':=hM3.lt
      have hsz3'':=hrg3.lt
      have keyNd:keyOf Tryz.prog 9 (.string (bs x.node))=some (.string x.node):=by rw [keyS _ (by rw [qe1];exact hnl),qga]
      have hval:=HU.out.get x.node
      have hput:=HU.out.put hdp
      have hub:=qgd (qgb g todo) (fun p hp=>by
        obtain ⟨p',hp',rfl⟩:=qer.1 hp
        exact hSn p' (List.mem_filter.1 hp').1) x.node
      have hcb:=cntOf_bound (qgb g todo) x.node
      have hdl:(qgb g todo).length≤128:=by
        unfold qgb
        rw [qw]
        exact Nat.le_trans (List.length_filter_le _ _) hSp
      have HP:Hid (UseMap (putL ON x.node (.agg #[.string ⟨#[]⟩,.int .i64 ((qt (qgb g todo) x.node).1+x.n0),.int .i64 ((qt (qgb g todo) x.node).2.1+x.n1),.int .i64 ((qt (qgb g todo) x.node).2.2+x.n2),.int .i64 (qdf (qgb g todo) x.node+1)])) (qgb g fun z=>todo z&& !(z==kb))):=hput
      generalize qt (qgb g todo) x.node=U at *
      generalize qdf (qgb g todo) x.node=C at *
      obtain ⟨u0,u1,u2⟩:=U
      dsimp only at hval hub HP
      have cS:=fun W=>sum_any u0 u1 u2 x.n0 x.n1 x.n2 W (by
        simp only [List.mem_cons,List.not_mem_nil,or_false,forall_eq_or_imp,forall_eq] at hub hnd ⊢
        omega)
      have hll:ON.length < maxLen:=by unfold maxLen;omega
      have zqA:q < (w3.alloc (.cells #[.string ⟨#[]⟩,.int .i64 u0,.int .i64 u1,.int .i64 u2,.int .i64 C] 91)).drew.heap.size:=by simp;omega
      have zvA:w3.heap.size < (w3.alloc (.cells #[.string ⟨#[]⟩,.int .i64 u0,.int .i64 u1,.int .i64 u2,.int .i64 C] 91)).drew.heap.size:=by simp
      have hbA:Below w3.heap.size w3 (w3.alloc (.cells #[.string ⟨#[]⟩,.int .i64 u0,.int .i64 u1,.int .i64 u2,.int .i64 C] 91)).drew:=(qi _ _).drew
      have qa0:=((qi w3 (.cells #[.string ⟨#[]⟩,.int .i64 u0,.int .i64 u1,.int .i64 u2,.int .i64 C] 91)).cell (p:=⟨q,0,none⟩) (by dsimp only;omega)).trans pc0
      have qa1:=((qi w3 (.cells #[.string ⟨#[]⟩,.int .i64 u0,.int .i64 u1,.int .i64 u2,.int .i64 C] 91)).cell (p:=⟨q,1,none⟩) (by dsimp only;omega)).trans pc1
      have qa2:=((qi w3 (.cells #[.string ⟨#[]⟩,.int .i64 u0,.int .i64 u1,.int .i64 u2,.int .i64 C] 91)).cell (p:=⟨q,2,none⟩) (by dsimp only;omega)).trans pc2
      have qa6:=((qi w3 (.cells #[.string ⟨#[]⟩,.int .i64 u0,.int .i64 u1,.int .i64 u2,.int .i64 C] 91)).cell (p:=⟨q,6,none⟩) (by dsimp only;omega)).trans pc6
      have hwC:RowKit.wrap64 (C+1)=C+1:=IntWalk.wrap64_in _ (by omega)
      have hnqv: ¬ q=w3.heap.size:=by omega
      have hnqv': ¬ w3.heap.size=q:=by omega
      clear hget hkey hlt3 hs3 hrg hM hk3 hz hmem hp2 hdp hput hub hdl H3 HU hnd
      go_wp2_with (at_lookup;refine wpL_get _ rfl _ _ 166 rfl 9 91 strK Tryz.underlying166 (zeroUse _) w.heap.size _ rfl hM3 _ x.node rfl keyNd _ hval ?_)
      go_region_with (first
          | (go_at_call 89;refine (cS _).mono ?_;rintro e ws ⟨rfl,hbs⟩;have q1:=fun o=>hbs.cell (p:=⟨q,o,none⟩) zqA;have v1:=fun o=>hbs.cell (p:=⟨w3.heap.size,o,none⟩) zvA;have r1:=fun o=>hbs.frozen (p:=⟨w3.heap.size,o,none⟩) zvA))
      all_goals go_wp2
      all_goals have K8:Kept (fun b=>b=w3.heap.size) ws ((((ws.setCell ⟨w3.heap.size,1,none⟩ (.int .i64 (u0+x.n0))).setCell ⟨w3.heap.size,2,none⟩ (.int .i64 (u1+x.n1))).setCell ⟨w3.heap.size,3,none⟩ (.int .i64 (u2+x.n2))).setCell ⟨w3.heap.size,4,none⟩ (.int .i64 (C+1))).drew:=(((((Kept.refl (fun b=>b=w3.heap.size) ws).setCell (p:=⟨w3.heap.size,1,none⟩) (fun _=>rfl) (.int .i64 (u0+x.n0))).setCell (p:=⟨w3.heap.size,2,none⟩) (fun _=>rfl) (.int .i64 (u1+x.n1))).setCell (p:=⟨w3.heap.size,3,none⟩) (fun _=>rfl) (.int .i64 (u2+x.n2))).setCell (p:=⟨w3.heap.size,4,none⟩) (fun _=>rfl) (.int .i64 (C+1))).drew
      all_goals have hb3s:=qj hbA hbs
      all_goals have hMs:=(hM3.kept (Kept.of_below (F:=qq) hb3s) id).kept K8 (by omega)
      all_goals have hb8:Below w.heap.size w ((((ws.setCell ⟨w3.heap.size,1,none⟩ (.int .i64 (u0+x.n0))).setCell ⟨w3.heap.size,2,none⟩ (.int .i64 (u1+x.n1))).setCell ⟨w3.heap.size,3,none⟩ (.int .i64 (u2+x.n2))).setCell ⟨w3.heap.size,4,none⟩ (.int .i64 (C+1))).drew:=(qj hb3 hb3s).trans (K8.below (Nat.le_trans hsz3 hb3s.size) fun i hi e=>by omega)
      all_goals obtain ⟨w9,hst,hm9,ht9⟩:=hMs.store (val:= .agg #[.string ⟨#[]⟩,.int .i64 (u0+x.n0),.int .i64 (u1+x.n1),.int .i64 (u2+x.n2),.int .i64 (C+1)]) strK Tryz.underlying166 hll keyNd
      all_goals have hk9:=Kept.turned ht9
      all_goals have hb9:=qel hb8 hk9 (Nat.le_refl _)
      all_goals have hk39:Kept (fun b=>b=w.heap.size∨b=w3.heap.size) w3 w9:=((Kept.of_below hb3s).trans (K8.mono fun i _ e=> .inr e) fun i _ h=>h).trans hk9 fun i _ e=> .inl e
      all_goals clear hb8 hMs K8
      all_goals go_region
      all_goals go_wp2
      all_goals go_roundw
      all_goals have hrl:=qal hrg3 hk39 (by rintro (e| e)<;>omega) (by rintro (e| e)<;>omega)
      all_goals have hlo:=Hlt.out
      all_goals have hpl:=qdj ON x.node (.agg #[.string ⟨#[]⟩,.int .i64 (u0+x.n0),.int .i64 (u1+x.n1),.int .i64 (u2+x.n2),.int .i64 (C+1)])
      all_goals first
        | exact ⟨_,_,hrg3.kept hk39 (by rintro (e| e)<;>omega) (by rintro (e| e)<;>omega),hm9,hb9,HP.out,by rw [hrl];omega⟩
        | (rw [hrl];exact hlo)
        | (simp only [hrl];exact hlo)
end
section
open Go.RowKit Go.Maps
theorem Tryz.infoUT:(Tryz.prog.info? 91).map (fun i=>(i.zero,i.size,i.bytes))=some (some (.agg #[.string ⟨#[]⟩,.int .i64 0,.int .i64 0,.int .i64 0,.int .i64 0]),5,48):=by kernel_rfl
def useRow (g:Gh) (k:qn):List Value:= [.string (bs k),.int .i64 (qt g.pods k).1,.int .i64 (qt g.pods k).2.1,.int .i64 (qt g.pods k).2.2,.int .i64 (qdf g.pods k)]
theorem uses_any {F:Nat→Prop} {w:World} {Y:Nat} {hd:Head} {g:Gh} (H:BMem F w Y hd g) (hS:qg7 g) (hN:g.NN.length≤64) (hnk: ∀ p∈g.NN,p.1.length≤maxLen) (hpk: ∀ p∈g.PP,p.2.2.node.length≤maxLen):
    Calls Tryz.prog 64 #[.pointer (some ⟨Y,0,none⟩)] w fun e w'=> ∃ ao cap,e= .returned (.slice ao g.NN.length cap)∧w'.ownsRow 0 91 5 (.slice ao g.NN.length cap) g.NN.length (g.NN.flatMap fun p=>useRow g p.1)∧(∀ b,(Value.slice ao g.NN.length cap).ownBlock=some b→w.heap.size≤b)∧Below w.heap.size w w':=by
  obtain ⟨i0,hi,hz0,hz1,hz2⟩:=info_parts Tryz.infoUT
  have hx4:=H.cN
  have hY:=H.lt Y H.fy
  have cB:=byNode_any H hS hpk
  have hlen: ∀ W,Below w.heap.size w W→ ∀ ty,(Builtin.len_ #[112] ty #[.map (some g.bn)]).run Tryz.prog W= .ok (.int .i64 g.NN.length) W:=fun W hb ty=>by
    have:=(H.below hb).nd.len Tryz.underlying112 ty
    rwa [qw] at this
  have HH:Hid (BMem F w Y hd g):=H
  clear H hS
  go_enter Tryz.func64,Tryz.ntmps64
  go_wp2_with (first
    | (go_at_call 77;refine cB.mono ?_;rintro e w1 ⟨bm,ON,rfl,hbm,hM1,hU,hb1⟩;have hx1:=(HH.out.below hb1).cN;have hlen1:=hlen w1 hb1)
    | (at_make;refine wpList_make_own _ rfl _ _ 89 rfl 0 91 i0 _ 5 Tryz.underlying89 hi hz0 hz1 _ _ _ g.NN.length rfl rfl rfl (by rw [hz2];omega) (by unfold maxLen;omega) (Nat.zero_le _) ?_;intro w2 hr2 hg2;have hb12:Below w1.heap.size w1 w2:=⟨hg2.os,hg2.tape,hg2.output,hg2.size,fun i hi=>hg2.block i hi (by simp)⟩;have hb2:=qj hb1 hb12;have H2:=HH.out.below hb2;have hx2:=H2.cN;have ck:=keysN_any g.bn w2;have cs:=sortedN_any H2.nd (by rw [qw];omega);rw [qw,qeq] at cs)
    | (go_at_call 79;refine ck.mono ?_;rintro e w4 ⟨rfl,rfl⟩)
    | (go_at_call 78;refine cs.mono ?_;rintro e w4 ⟨ao,cap,rfl,hrow,hb4⟩))
  have hb04:=qj hb2 hb4
  have HR4:Hid (w4.ownsRow 0 91 5 (.slice (some ⟨w1.heap.size,0,none⟩) 0 g.NN.length) 0 []):=(Kept.of_below (F:=qq) hb4).ownsRow hr2 fun _ _=>id
  have HS4:Hid (w4.ownsRow 0 9 1 (.slice ao g.NN.length cap) g.NN.length (qa9 g.NN)):=hrow
  have HM4:Hid (qai Tryz.prog w4 9 bm ON):=(hM1.kept (Kept.of_below (F:=qq) hb12) id).kept (Kept.of_below (F:=qq) hb4) id
  have hsz1:=hb1.size
  clear hr2 hg2 hb2 H2 hx2 ck cs hb4 hrow hx4 hx1 hlen1 hlen hb12 hM1
  have HU:Hid (UseMap ON g.pods):=hU
  clear hU hb1 cB
  go_loopw [4,23] (fun o i wr=> ∃ (k:Nat) (oo:Option Addr) (oc:Nat),k≤g.NN.length∧i= .int .i64 k∧o= .slice oo k oc∧wr.ownsRow 0 91 5 (.slice oo k oc) k ((g.NN.take k).flatMap fun p=>useRow g p.1)∧(∀ b,(Value.slice oo k oc).ownBlock=some b→w.heap.size≤b)∧Below w.heap.size w wr∧wr.ownsRow 0 9 1 (.slice ao g.NN.length cap) g.NN.length (qa9 g.NN)∧qai Tryz.prog wr 9 bm ON) (fun _ i _=>g.NN.length - (intOf i).toNat)
  case atStart=>exact ⟨0,_,_,Nat.zero_le _,rfl,rfl,HR4.out,fun b hb=>by simp [Value.ownBlock] at hb;omega,hb04,HS4.out,HM4.out⟩
  case round=>
    clear HR4 HS4 hb04 HM4
    obtain ⟨k,oo,oc,hk,rfl,rfl,hRo,hRf,hbw,hSr,hMr⟩:=hrel
    have HRo:Hid (wr.ownsRow 0 91 5 (.slice oo k oc) k ((g.NN.take k).flatMap fun p=>useRow g p.1)):=hRo
    have HRf:Hid (∀ b,(Value.slice oo k oc).ownBlock=some b→w.heap.size≤b):=hRf
    have HSr:Hid (wr.ownsRow 0 9 1 (.slice ao g.NN.length cap) g.NN.length (qa9 g.NN)):=hSr
    clear hRo hRf hSr
    by_cases hlt:k < g.NN.length
    · have hnkk:=hnk g.NN[k] (List.getElem_mem hlt)
      obtain ⟨gb,rfl,hg,hcl⟩:=own_at HSr.out (by omega)
      have hcell:wr.cell? ⟨gb,k,none⟩=some (.string (bs g.NN[k].1)):=by
        rw [hcl k hlt]
        simp [qa9,hlt]
      have Hrows:Hid (((g.NN.take (k+1)).flatMap fun p=>useRow g p.1)=((g.NN.take k).flatMap fun p=>useRow g p.1)++useRow g g.NN[k].1):=by
        show _=_
        rw [List.take_succ_eq_append_getElem hlt,List.flatMap_append]
        simp
      obtain ⟨nm,hE⟩: ∃ E,g.NN[k].1=E:=⟨_,rfl⟩
      have HE:Hid (g.NN[k].1=nm):=hE
      rw [hE] at hnkk hcell
      clear hE
      have keyNm:keyOf Tryz.prog 9 (.string (bs nm))=some (.string nm):=by rw [keyS _ (by rw [qe1];exact hnkk),qga]
      have hval:=HU.out.get nm
      have HR5:Hid (useRow g nm= [.string (bs nm),.int .i64 (qt g.pods nm).1,.int .i64 (qt g.pods nm).2.1,.int .i64 (qt g.pods nm).2.2,.int .i64 (qdf g.pods nm)]):=rfl
      generalize qt g.pods nm=U at *
      generalize qdf g.pods nm=C at *
      obtain ⟨u0,u1,u2⟩:=U
      dsimp only at hval HR5
      clear hcl
      have hbA:Below wr.heap.size wr ((wr.alloc (.cells #[.string (bs nm),.int .i64 u0,.int .i64 u1,.int .i64 u2,.int .i64 C] 91)).alloc (.cells #[.string (bs nm),.int .i64 u0,.int .i64 u1,.int .i64 u2,.int .i64 C] 91)):=qj (qi _ _) (qi _ _)
      have HMr:Hid (qai Tryz.prog wr 9 bm ON):=hMr
      have hRA:=(Kept.of_below (F:=qq) hbA).ownsRow HRo.out fun _ _=>id
      have hblk:((wr.alloc (.cells #[.string (bs nm),.int .i64 u0,.int .i64 u1,.int .i64 u2,.int .i64 C] 91)).alloc (.cells #[.string (bs nm),.int .i64 u0,.int .i64 u1,.int .i64 u2,.int .i64 C] 91)).heap[wr.heap.size+1]? =some (.cells #[.string (bs nm),.int .i64 u0,.int .i64 u1,.int .i64 u2,.int .i64 C] 91 (0,0)):=by
        have h:=qm (wr.alloc (.cells #[.string (bs nm),.int .i64 u0,.int .i64 u1,.int .i64 u2,.int .i64 C] 91)) (.cells #[.string (bs nm),.int .i64 u0,.int .i64 u1,.int .i64 u2,.int .i64 C] 91)
        rwa [World.size_alloc] at h
      have hnew: ∀ (j:Nat) u,[Value.string (bs nm),.int .i64 u0,.int .i64 u1,.int .i64 u2,.int .i64 C][j]? =some u→((wr.alloc (.cells #[.string (bs nm),.int .i64 u0,.int .i64 u1,.int .i64 u2,.int .i64 C] 91)).alloc (.cells #[.string (bs nm),.int .i64 u0,.int .i64 u1,.int .i64 u2,.int .i64 C] 91)).cell? ((⟨wr.heap.size+1,0,none⟩:Addr).add j)=some u:=fun j u hu=>by
        have ha:(⟨wr.heap.size+1,0,none⟩:Addr).add j=⟨wr.heap.size+1,j,none⟩:=by
          unfold Addr.add
          split
          · rename_i h;rw [h]
          · simp
        rw [ha,ql hblk,← hu]
        simp
      have HAll:Hid (∀ ao' cap' w6,w6.ownsRow 0 91 5 (.slice ao' (k+1) cap') (k+1) (((g.NN.take k).flatMap fun p=>useRow g p.1)++ [.string (bs nm),.int .i64 u0,.int .i64 u1,.int .i64 u2,.int .i64 C])→Kept (fun b=>(Value.slice oo k oc).ownBlock=some b) ((wr.alloc (.cells #[.string (bs nm),.int .i64 u0,.int .i64 u1,.int .i64 u2,.int .i64 C] 91)).alloc (.cells #[.string (bs nm),.int .i64 u0,.int .i64 u1,.int .i64 u2,.int .i64 C] 91)) w6→
          ((Value.slice ao' (k+1) cap').ownBlock=(Value.slice oo k oc).ownBlock∨ ∀ b,(Value.slice ao' (k+1) cap').ownBlock=some b→((wr.alloc (.cells #[.string (bs nm),.int .i64 u0,.int .i64 u1,.int .i64 u2,.int .i64 C] 91)).alloc (.cells #[.string (bs nm),.int .i64 u0,.int .i64 u1,.int .i64 u2,.int .i64 C] 91)).heap.size≤b)→
          w6.ownsRow 0 91 5 (.slice ao' (k+1) cap') (k+1) ((g.NN.take (k+1)).flatMap fun p=>useRow g p.1)∧(∀ b,(Value.slice ao' (k+1) cap').ownBlock=some b→w.heap.size≤b)∧Below w.heap.size w w6∧w6.ownsRow 0 9 1 (.slice (some ⟨gb,0,none⟩) g.NN.length cap) g.NN.length (qa9 g.NN)∧qai Tryz.prog w6 9 bm ON):=fun ao' cap' w6 r6 k6 fr=>by
        refine ⟨?_,fun b hb=> ?_,?_,?_,?_⟩
        · rw [Hrows.out,HE.out,HR5.out]
          exact r6
        · rcases fr with hf| hf
          · exact HRf.out b (by rw [← hf];exact hb)
          · have:=hf b hb
            simp at this
            have:=hbw.size
            omega
        · exact (qj hbw hbA).trans (k6.below (Nat.le_trans hbw.size hbA.size) fun i hi h=>by have:=HRf.out i h;omega)
        · exact k6.ownsRow ((Kept.of_below (F:=qq) hbA).ownsRow HSr.out fun _ _=>id) fun b hb h=>qce HSr.out HRo.out (by decide) hb h
        · refine (HMr.out.kept (Kept.of_below (F:=qq) hbA) id).kept k6 fun h=> ?_
          obtain ⟨c,hc⟩:=qby HRo.out h
          obtain ⟨es,clock,hb,_⟩:=HMr.out
          rw [hb] at hc
          cases hc
      clear hbA hblk
      go_wp2_with (first
        | (at_builtin;refine qy _ rfl (.tmp 32) (.tmp 34) 89 rfl 91 i0 _ 5 48 Tryz.underlying89 hi hz0 hz1 hz2 rfl (by decide) _ k _ rfl (by exact hRA) ⟨wr.heap.size+1,0,none⟩ 1 1 [.string (bs nm),.int .i64 u0,.int .i64 u1,.int .i64 u2,.int .i64 C] rfl rfl (by exact hnew) (by intro u hu;simp at hu;rcases hu with rfl| rfl| rfl| rfl| rfl<;>rfl) (by unfold maxLen;omega) (by omega) ?_;intro ao' cap' w6 r6 g6 fr;have k6:Kept (fun b=>(Value.slice oo k oc).ownBlock=some b) ((wr.alloc (.cells #[.string (bs nm),.int .i64 u0,.int .i64 u1,.int .i64 u2,.int .i64 C] 91)).alloc (.cells #[.string (bs nm),.int .i64 u0,.int .i64 u1,.int .i64 u2,.int .i64 C] 91)) w6:=(Kept.refl _ _).grown g6 fun k hk _=>hk)
        | (at_lookup;refine wpL_get _ rfl _ _ 166 rfl 9 91 strK Tryz.underlying166 (zeroUse _) bm _ rfl hMr _ nm rfl keyNm _ hval ?_))
      all_goals go_wp2
      all_goals go_roundw
      all_goals first
        | (refine ⟨k+1,ao',cap',by omega,by go_num,rfl,?_⟩;exact HAll.out ao' cap' w6 r6 k6 fr)
        | (simp [intOf];omega)
    · have hkn:k=g.NN.length:=by omega
      subst hkn
      have hr:=HRo.out
      rw [List.take_length] at hr
      go_wp2
      go_ret
      exact ⟨oo,oc,rfl,hr,HRf.out,hbw⟩
end
section
open Go.RowKit Go.Maps
def zeroK:Array Value:=(List.replicate 4 (Value.int .i64 0)++List.replicate 80 (Value.string ⟨#[]⟩)).toArray
theorem zeroK_eq:zeroK=Tryz.zeroCells158:=by kernel_rfl
def kind0 (n0 n1 n2 port:Int):Array Value:=(((zeroK.setIfInBounds 0 (.int .i64 n0)).setIfInBounds 1 (.int .i64 n1)).setIfInBounds 2 (.int .i64 n2)).setIfInBounds 3 (.int .i64 port)
theorem kind0_over (n0 n1 n2 port:Int):kind0 n0 n1 n2 port=(((Tryz.zeroCells158.setIfInBounds 0 (.int .i64 n0)).setIfInBounds 1 (.int .i64 n1)).setIfInBounds 2 (.int .i64 n2)).setIfInBounds 3 (.int .i64 port):=by
  unfold kind0
  rw [zeroK_eq]
theorem qfs (n0 n1 n2 port:Int):(kind0 n0 n1 n2 port).size=84:=by
  rw [kind0_over]
  simp only [Array.size_setIfInBounds]
  kernel_rfl
theorem zeroCells_one: ∀ v∈Tryz.zeroCells158,v.oneCell'=true:=by
  have:Tryz.zeroCells158.all (·.oneCell')=true:=by kernel_rfl
  simpa using Array.all_eq_true'.1 this
theorem kind0_one (n0 n1 n2 port:Int):(kind0 n0 n1 n2 port).all (·.oneCell')=true:=by
  rw [Array.all_eq_true']
  intro v hv
  rw [kind0_over] at hv
  rcases Array.mem_or_eq_of_mem_setIfInBounds hv with hv| rfl
  · rcases Array.mem_or_eq_of_mem_setIfInBounds hv with hv| rfl
    · rcases Array.mem_or_eq_of_mem_setIfInBounds hv with hv| rfl
      · rcases Array.mem_or_eq_of_mem_setIfInBounds hv with hv| rfl
        · exact zeroCells_one v hv
        · rfl
      · rfl
    · rfl
  · rfl
theorem copy_labs (x:Lst) {w W:World} (h:x.ok w) (hn:x.L.length≤8) (hb:Below w.heap.size w W) {B:Nat} {C:Array Value} {t:TypeId} (hB:W.heap[B]? =some (.cells C t (0,0))) (o:Nat) (ho:o+16≤C.size) (ty:TypeId):
    (Builtin.copy_ #[68,68] ty #[.slice (some ⟨B,o,none⟩) 8 8,.slice x.a x.L.length x.cap]).run Tryz.prog W= .ok (.int .i64 x.L.length) (W.setCells B o (qav x.L)):=by
  obtain ⟨i0,hi,hz0,hz1,hz2⟩:=info_parts Tryz.infoLab
  have hsz:(Tryz.prog.info? 85).map (·.size)=some 2:=by rw [hi];simp [hz1]
  obtain ⟨a,L,cap⟩:=x
  dsimp only at hn ⊢
  obtain ⟨o1,o2,o3,o4⟩:=h
  dsimp only at o1 o2 o3 o4
  by_cases h0:0 < L.length
  · obtain ⟨b,off,rfl,hc⟩:=o3.head h0
    have hbl:=World.block_lt_of_cell? w _ (hc 0 h0).1
    dsimp only at hbl
    have hsrc: ∀ j v,(qav L)[j]? =some v→W.cell? ((⟨b,off,none⟩:Addr).add j)=some v:=labCells_at fun k hk=>⟨by rw [hb.cell (p:=⟨b,off+k * 2,none⟩) hbl];exact (hc k hk).1,by rw [hb.cell (p:=⟨b,off+k * 2+1,none⟩) hbl];exact (hc k hk).2⟩
    exact qgp (P:=Tryz.prog) W 68 68 ty 85 B o 8 8 ⟨b,off,none⟩ L.length cap (qav L) 2 L.length Tryz.underlying68 hsz (Nat.min_eq_left hn) (by rw [qbi];omega) hsrc (fun j hj=>by rw [qbi] at hj;rw [ql hB,Array.getElem?_eq_getElem (by omega)];rfl) (fun j _=>qp hB) (labCells_one L)
  · have hL:L= []:=List.eq_nil_of_length_eq_zero (by omega)
    subst hL
    exact qhd (P:=Tryz.prog) W 68 68 ty 85 (some ⟨B,o,none⟩) a 8 8 0 cap Tryz.underlying68 i0 hi (by rfl)
def PodV.lists (v:PodV):List (List Lab):= [v.labels,v.select,v.bears,v.near,v.apart]
def qeb (K0:Array Value) (xs:List (List Lab)):Nat→Array Value
  | 0=>K0
  | j+1=>setL (qeb K0 xs j) (4+j * 16) (qav (xs.getD j []))
theorem qb9 (K0:Array Value) (xs:List (List Lab)) (j:Nat):(qeb K0 xs j).size=K0.size:=by
  induction j with
  | zero=>rfl
  | succ j ih=>rw [qeb,setL_size,ih]
theorem setL_one: ∀ (cs:List Value) (cur:Array Value) (o:Nat),cur.all (·.oneCell')=true→(∀ v∈cs,v.oneCell'=true)→(setL cur o cs).all (·.oneCell')=true
  | [],_,_,h,_=>h
  | v::r,cur,o,h,h1=>by
    rw [setL]
    refine setL_one r _ _ ?_ fun x hx=>h1 x (List.mem_cons_of_mem _ hx)
    rw [Array.all_eq_true'] at h ⊢
    intro x hx
    rcases Array.mem_or_eq_of_mem_setIfInBounds hx with hx| rfl
    · exact h x hx
    · exact h1 _ (List.mem_cons_self ..)
theorem kindTo_one {K0:Array Value} (h:K0.all (·.oneCell')=true) (xs:List (List Lab)) (j:Nat):(qeb K0 xs j).all (·.oneCell')=true:=by
  induction j with
  | zero=>exact h
  | succ j ih=>exact setL_one _ _ _ ih (labCells_one _)
theorem qdi {b x:Nat}: ∀ (cs:List Value) (o:Nat) {w:World},x≠b→(w.setCells b o cs).heap[x]? =w.heap[x]?
  | [],_,_,_=>rfl
  | v::r,o,w,h=>by
    rw [World.setCells,qdi r (o+1) h]
    exact qbt h _
theorem qdq {fn:Func} {q:Tmp} {ty:TypeId} (h:fn.results= #[.cell q ty]) {tmps:Array Value} {P:Program} {w:World} {ad:Addr} {v:Value} (ha:tmps.getD q undef= .pointer (some ad)) (hl:(loadVar ty ad).run P w= .ok v w):(results fn tmps).run P w= .ok v w:=by
  simp only [results,h]
  simp [asAddr,hl,ha,-Array.getD_eq_getD_getElem?]
section
variable {P:Program} {w w':World} {ops:Array Oper} {rest:List Oper} {o:Oper} {a:Act} {Q:Exit→Act→World→Prop}
theorem wpList_load_big (hgd:o.guard=none) (t:TypeId) (x:Operand) (hop:o.op= .load t x) (v r:Value) (hx:a.eval x=v) (hr:(Instr.loadAt t v).run P w= .ok r w) (h:wpList P ops Q rest (a.put o.dst r) w):wpList P ops Q (o::rest) a w:=by
  refine wpList_plain hgd fun K hK'=> ?_
  unfold Oper.wp
  simp [execOp,hop,hx,hr,Result.andThen]
  exact hK' _ _ h
theorem qeg (hgd:o.guard=none) (hdst:o.dst=none) (t:TypeId) (x y:Operand) (hop:o.op= .store t x y) (v r:Value) (hx:a.eval x=v) (hy:a.eval y=r) (hr:(Instr.storeAt t v r).run P w= .ok () w') (h:wpList P ops Q rest a w'):wpList P ops Q (o::rest) a w:=by
  refine wpList_plain hgd fun K hK'=> ?_
  unfold Oper.wp
  simp [execOp,hop,hx,hy,hr,Result.andThen]
  exact hK' _ _ (by rw [hdst];exact h)
end
theorem kind_any {w:World} (p:PodD) (hok:p.ok w) (hl: ∀ x∈p.lists,x.L.length≤8):
    Calls Tryz.prog 96 #[.agg p.cells] w fun e w'=>e= .returned (.agg (qeb (kind0 p.n0 p.n1 p.n2 p.port) p.val.lists 5))∧Below w.heap.size w w':=by
  have hpc:p.cells= #[.string p.name,.int .i64 p.n0,.int .i64 p.n1,.int .i64 p.n2,.int .i64 p.port,.slice p.labels.a p.labels.L.length p.labels.cap,.slice p.select.a p.select.L.length p.select.cap,.slice p.bears.a p.bears.L.length p.bears.cap,.slice p.near.a p.near.L.length p.near.cap,.slice p.apart.a p.apart.L.length p.apart.cap]:=rfl
  have hst: ∀ W:World,(storeCells ⟨W.heap.size,0,none⟩ ((((Tryz.zeroCells158.toList.set 0 (.int .i64 p.n0)).set 1 (.int .i64 p.n1)).set 2 (.int .i64 p.n2)).set 3 (.int .i64 p.port))).run Tryz.prog (W.alloc (.cells Tryz.zeroCells158 158))= .ok () (W.alloc (.cells (kind0 p.n0 p.n1 p.n2 p.port) 158)):=fun W=>by
    have h:=run_storeCells_new (P:=Tryz.prog) W 158 Tryz.zeroCells158 (kind0 p.n0 p.n1 p.n2 p.port) (by rw [qfs];kernel_rfl) (by rw [qfs];kernel_rfl) (kind0_one _ _ _ _)
    have e:(kind0 p.n0 p.n1 p.n2 p.port).toList=(((Tryz.zeroCells158.toList.set 0 (.int .i64 p.n0)).set 1 (.int .i64 p.n1)).set 2 (.int .i64 p.n2)).set 3 (.int .i64 p.port):=by simp only [kind0_over,Array.toList_setIfInBounds]
    rw [e] at h
    exact h
  have hst1:=hst (((w.alloc (.cells #[.string p.name,.int .i64 p.n0,.int .i64 p.n1,.int .i64 p.n2,.int .i64 p.port,.slice p.labels.a p.labels.L.length p.labels.cap,.slice p.select.a p.select.L.length p.select.cap,.slice p.bears.a p.bears.L.length p.bears.cap,.slice p.near.a p.near.L.length p.near.cap,.slice p.apart.a p.apart.L.length p.apart.cap] 77)).alloc (.cells Tryz.zeroCells158 158)))
  simp only [World.size_alloc] at hst1
  rw [hpc]
  clear hst
  have hK0:=qfs p.n0 p.n1 p.n2 p.port
  have h1K:=kind0_one p.n0 p.n1 p.n2 p.port
  generalize kind0 p.n0 p.n1 p.n2 p.port=K0 at hst1 hK0 h1K ⊢
  have HK1:Hid (K0.all (·.oneCell')=true):=h1K
  clear h1K
  go_enter Tryz.func96,Tryz.ntmps96
  go_wp2
  clear hst1
  have hb0:Below w.heap.size w (((w.alloc (.cells #[.string p.name,.int .i64 p.n0,.int .i64 p.n1,.int .i64 p.n2,.int .i64 p.port,.slice p.labels.a p.labels.L.length p.labels.cap,.slice p.select.a p.select.L.length p.select.cap,.slice p.bears.a p.bears.L.length p.bears.cap,.slice p.near.a p.near.L.length p.near.cap,.slice p.apart.a p.apart.L.length p.apart.cap] 77)).alloc (.cells Tryz.zeroCells158 158)).alloc (.cells K0 158)):=qj (qj (qi _ _) (qi _ _)) (qi _ _)
  have hN1:(((w.alloc (.cells #[.string p.name,.int .i64 p.n0,.int .i64 p.n1,.int .i64 p.n2,.int .i64 p.port,.slice p.labels.a p.labels.L.length p.labels.cap,.slice p.select.a p.select.L.length p.select.cap,.slice p.bears.a p.bears.L.length p.bears.cap,.slice p.near.a p.near.L.length p.near.cap,.slice p.apart.a p.apart.L.length p.apart.cap] 77)).alloc (.cells Tryz.zeroCells158 158)).alloc (.cells K0 158)).heap[w.heap.size+1+1]? =some (.cells K0 158 (0,0)):=by
    have h:=qm ((w.alloc (.cells #[.string p.name,.int .i64 p.n0,.int .i64 p.n1,.int .i64 p.n2,.int .i64 p.port,.slice p.labels.a p.labels.L.length p.labels.cap,.slice p.select.a p.select.L.length p.select.cap,.slice p.bears.a p.bears.L.length p.bears.cap,.slice p.near.a p.near.L.length p.near.cap,.slice p.apart.a p.apart.L.length p.apart.cap] 77)).alloc (.cells Tryz.zeroCells158 158)) (.cells K0 158)
    rwa [World.size_alloc,World.size_alloc] at h
  have hN2:(((w.alloc (.cells #[.string p.name,.int .i64 p.n0,.int .i64 p.n1,.int .i64 p.n2,.int .i64 p.port,.slice p.labels.a p.labels.L.length p.labels.cap,.slice p.select.a p.select.L.length p.select.cap,.slice p.bears.a p.bears.L.length p.bears.cap,.slice p.near.a p.near.L.length p.near.cap,.slice p.apart.a p.apart.L.length p.apart.cap] 77)).alloc (.cells Tryz.zeroCells158 158)).alloc (.cells K0 158)).heap[w.heap.size+1]? =some (.cells Tryz.zeroCells158 158 (0,0)):=by
    have h:=qm (w.alloc (.cells #[.string p.name,.int .i64 p.n0,.int .i64 p.n1,.int .i64 p.n2,.int .i64 p.port,.slice p.labels.a p.labels.L.length p.labels.cap,.slice p.select.a p.select.L.length p.select.cap,.slice p.bears.a p.bears.L.length p.bears.cap,.slice p.near.a p.near.L.length p.near.cap,.slice p.apart.a p.apart.L.length p.apart.cap] 77)) (.cells Tryz.zeroCells158 158)
    rw [World.size_alloc] at h
    rw [(qi ((w.alloc (.cells #[.string p.name,.int .i64 p.n0,.int .i64 p.n1,.int .i64 p.n2,.int .i64 p.port,.slice p.labels.a p.labels.L.length p.labels.cap,.slice p.select.a p.select.L.length p.select.cap,.slice p.bears.a p.bears.L.length p.bears.cap,.slice p.near.a p.near.L.length p.near.cap,.slice p.apart.a p.apart.L.length p.apart.cap] 77)).alloc (.cells Tryz.zeroCells158 158)) (.cells K0 158)).block (w.heap.size+1) (by rw [World.size_alloc,World.size_alloc];omega)]
    exact h
  go_loopw [22] (fun i wr=> ∃ j:Nat,j≤5∧i= .int .i64 j∧Below w.heap.size w wr∧wr.heap[w.heap.size+1+1]? =some (.cells (qeb K0 p.val.lists j) 158 (0,0))∧wr.heap[w.heap.size+1]? =some (.cells Tryz.zeroCells158 158 (0,0))) (fun i _=>5 - (intOf i).toNat)
  case atStart=>exact ⟨0,by omega,rfl,hb0,hN1,hN2⟩
  case round=>
    clear hb0 hN1 hN2
    obtain ⟨j,hj,rfl,hbw,hB,hR⟩:=hrel
    have hj':j=0∨j=1∨j=2∨j=3∨j=4∨j=5:=by omega
    rcases hj' with rfl| rfl| rfl| rfl| rfl| rfl
    · have hcp:=copy_labs p.labels (hok.2 _ (by simp [PodD.lists])) (hl _ (by simp [PodD.lists])) hbw hB 4 (by rw [qb9];omega)
      have hix:(Instr.index 200 (.agg #[.slice p.labels.a p.labels.L.length p.labels.cap,.slice p.select.a p.select.L.length p.select.cap,.slice p.bears.a p.bears.L.length p.bears.cap,.slice p.near.a p.near.L.length p.near.cap,.slice p.apart.a p.apart.L.length p.apart.cap]) (.int .i64 0)).run Tryz.prog wr= .ok (.slice p.labels.a p.labels.L.length p.labels.cap) wr:=by kernel_rfl
      go_wp2
      go_roundw
      all_goals first
        | exact ⟨1,by omega,rfl,qcw (by omega) _ _ hbw,qcv _ _ hB,by rw [qdi _ _ (by omega)];exact hR⟩
        | (simp [intOf])
    · have hcp:=copy_labs p.select (hok.2 _ (by simp [PodD.lists])) (hl _ (by simp [PodD.lists])) hbw hB 20 (by rw [qb9];omega)
      have hix:(Instr.index 200 (.agg #[.slice p.labels.a p.labels.L.length p.labels.cap,.slice p.select.a p.select.L.length p.select.cap,.slice p.bears.a p.bears.L.length p.bears.cap,.slice p.near.a p.near.L.length p.near.cap,.slice p.apart.a p.apart.L.length p.apart.cap]) (.int .i64 1)).run Tryz.prog wr= .ok (.slice p.select.a p.select.L.length p.select.cap) wr:=by kernel_rfl
      go_wp2
      go_roundw
      all_goals first
        | exact ⟨2,by omega,rfl,qcw (by omega) _ _ hbw,qcv _ _ hB,by rw [qdi _ _ (by omega)];exact hR⟩
        | (simp [intOf])
    · have hcp:=copy_labs p.bears (hok.2 _ (by simp [PodD.lists])) (hl _ (by simp [PodD.lists])) hbw hB 36 (by rw [qb9];omega)
      have hix:(Instr.index 200 (.agg #[.slice p.labels.a p.labels.L.length p.labels.cap,.slice p.select.a p.select.L.length p.select.cap,.slice p.bears.a p.bears.L.length p.bears.cap,.slice p.near.a p.near.L.length p.near.cap,.slice p.apart.a p.apart.L.length p.apart.cap]) (.int .i64 2)).run Tryz.prog wr= .ok (.slice p.bears.a p.bears.L.length p.bears.cap) wr:=by kernel_rfl
      go_wp2
      go_roundw
      all_goals first
        | exact ⟨3,by omega,rfl,qcw (by omega) _ _ hbw,qcv _ _ hB,by rw [qdi _ _ (by omega)];exact hR⟩
        | (simp [intOf])
    · have hcp:=copy_labs p.near (hok.2 _ (by simp [PodD.lists])) (hl _ (by simp [PodD.lists])) hbw hB 52 (by rw [qb9];omega)
      have hix:(Instr.index 200 (.agg #[.slice p.labels.a p.labels.L.length p.labels.cap,.slice p.select.a p.select.L.length p.select.cap,.slice p.bears.a p.bears.L.length p.bears.cap,.slice p.near.a p.near.L.length p.near.cap,.slice p.apart.a p.apart.L.length p.apart.cap]) (.int .i64 3)).run Tryz.prog wr= .ok (.slice p.near.a p.near.L.length p.near.cap) wr:=by kernel_rfl
      go_wp2
      go_roundw
      all_goals first
        | exact ⟨4,by omega,rfl,qcw (by omega) _ _ hbw,qcv _ _ hB,by rw [qdi _ _ (by omega)];exact hR⟩
        | (simp [intOf])
    · have hcp:=copy_labs p.apart (hok.2 _ (by simp [PodD.lists])) (hl _ (by simp [PodD.lists])) hbw hB 68 (by rw [qb9];omega)
      have hix:(Instr.index 200 (.agg #[.slice p.labels.a p.labels.L.length p.labels.cap,.slice p.select.a p.select.L.length p.select.cap,.slice p.bears.a p.bears.L.length p.bears.cap,.slice p.near.a p.near.L.length p.near.cap,.slice p.apart.a p.apart.L.length p.apart.cap]) (.int .i64 4)).run Tryz.prog wr= .ok (.slice p.apart.a p.apart.L.length p.apart.cap) wr:=by kernel_rfl
      go_wp2
      go_roundw
      all_goals first
        | exact ⟨5,by omega,rfl,qcw (by omega) _ _ hbw,qcv _ _ hB,by rw [qdi _ _ (by omega)];exact hR⟩
        | (simp [intOf])
    · have hld:(Instr.loadAt 158 (.pointer (some ⟨w.heap.size+1+1,0,none⟩))).run Tryz.prog wr= .ok (.agg (qeb K0 p.val.lists 5)) wr:=by
        simp only [Instr.loadAt,Instr.sureAddr,Sem.run_bind,Sem.run_pure,Result.andThen]
        exact run_loadVar_row _ _ _ _ _ _ _ hB Tryz.underlying158 rfl (by rw [qb9,hK0];kernel_rfl)
      have hsv:(Instr.storeAt 158 (.pointer (some ⟨w.heap.size+1,0,none⟩)) (.agg (qeb K0 p.val.lists 5))).run Tryz.prog wr= .ok () (wr.setRow (w.heap.size+1) (qeb K0 p.val.lists 5)):=by
        simp only [Instr.storeAt,Instr.sureAddr,Sem.run_bind,Sem.run_pure,Result.andThen]
        exact run_storeVar_row _ _ _ _ _ _ hR (by rw [qb9,hK0];kernel_rfl) (by rw [qb9,hK0];kernel_rfl) (kindTo_one HK1.out _ _)
      go_wp2_with (first
        | (refine wpList_load_big rfl 158 _ rfl _ _ rfl hld ?_)
        | (refine qeg rfl rfl 158 _ _ rfl _ _ rfl rfl hsv ?_))
      have hl2:(loadVar 158 ⟨w.heap.size+1,0,none⟩).run Tryz.prog (wr.setRow (w.heap.size+1) (qeb K0 p.val.lists 5))= .ok (.agg (qeb K0 p.val.lists 5)) (wr.setRow (w.heap.size+1) (qeb K0 p.val.lists 5)):=run_loadVar_row _ _ _ _ _ _ _ (setRow_heap _ _ _ _ _ _ hR) Tryz.underlying158 rfl (by rw [qb9,hK0];kernel_rfl)
      refine bodyPost_ret (v:= .agg (qeb K0 p.val.lists 5)) (qdq rfl rfl hl2) rfl ⟨rfl,hbw.trans ⟨rfl,rfl,rfl,by simp [World.setRow],fun k hk=>setRow_other _ _ _ _ (by omega)⟩⟩
end
section
open Go.RowKit Go.Maps
def qgo:Value→Lit
  | .int q n=> .int q n
  | .string s=> .string s.data.toList
  | _=> .bool false
def qgm (cs:List Value):Prop:= ∀ v∈cs,∃ s,v= .string s∧s.size≤maxLen
theorem qgm.drop {cs:List Value} (h:qgm cs) (n:Nat):qgm (cs.drop n):=fun v hv=>h v (List.mem_of_mem_drop hv)
theorem qgm.take {cs:List Value} (h:qgm cs) (n:Nat):qgm (cs.take n):=fun v hv=>h v (List.mem_of_mem_take hv)
theorem lits_str (d:Nat) {v:Value} (h: ∃ s,v= .string s∧s.size≤maxLen):Tryz.prog.keyLits (d+1) 9 [v]=some [qgo v]:=by
  obtain ⟨s,rfl,hs⟩:=h
  simp [Program.keyLits,Tryz.underlying9,hs,qgo]
theorem lits_lab (d:Nat) {cs:List Value} (hl:cs.length=2) (h:qgm cs):Tryz.prog.keyLits (d+2) 85 cs=some (cs.map qgo):=by
  obtain ⟨a,b,rfl⟩: ∃ a b,cs= [a,b]:=by
    match cs,hl with
    | [a,b],_=>exact ⟨a,b,rfl⟩
  have ha:=lits_str d (h a (by simp))
  have hb:=lits_str d (h b (by simp))
  have c1:Tryz.prog.cellsOf 85=2:=by kernel_rfl
  have c2:Tryz.prog.cellsOf 9=1:=by kernel_rfl
  unfold Program.keyLits
  simp [Tryz.underlying85,c1,c2,ha,hb]
theorem mapM_some {α β:Type} {g:α→Option β} {f:α→β}: ∀ {l:List α},(∀ i∈l,g i=some (f i))→l.mapM g=some (l.map f)
  | [],_=>rfl
  | x::r,h=>by
    rw [List.mapM_cons,h x (by simp),mapM_some fun i hi=>h i (by simp [hi])]
    rfl
theorem chunks (c:Nat): ∀ (n:Nat) (cs:List Value),cs.length=n * c→((List.range n).map fun i=>((cs.drop (i * c)).take c).map qgo).flatten=cs.map qgo
  | 0,cs,h=>by
    have:cs= []:=List.eq_nil_of_length_eq_zero (by omega)
    subst this
    rfl
  | n+1,cs,h=>by
    rw [List.range_succ_eq_map,List.map_cons,List.flatten_cons,List.map_map]
    have ih:=chunks c n (cs.drop c) (by rw [List.length_drop,h,Nat.add_mul];omega)
    have e:(List.range n).map ((fun i=>((cs.drop (i * c)).take c).map qgo)∘Nat.succ)=(List.range n).map fun i=>(((cs.drop c).drop (i * c)).take c).map qgo:=by
      apply List.map_congr_left
      intro i _
      simp only [Function.comp_apply,List.drop_drop]
      rw [show i.succ * c=c+i * c by rw [Nat.succ_mul];omega]
    rw [e,ih]
    simp only [Nat.zero_mul,List.drop_zero]
    rw [← List.map_append,List.take_append_drop]
theorem lits_arr {t e:TypeId} {n c d:Nat} (hu:Tryz.prog.underlying t=some (.array n e)) (ht:Tryz.prog.cellsOf t=n * c) (he:Tryz.prog.cellsOf e=c) (Q:Value→Prop)
    (h: ∀ cs:List Value,cs.length=c→(∀ v∈cs,Q v)→Tryz.prog.keyLits d e cs=some (cs.map qgo)) {cs:List Value} (hl:cs.length=n * c) (hq: ∀ v∈cs,Q v):
    Tryz.prog.keyLits (d+1) t cs=some (cs.map qgo):=by
  unfold Program.keyLits
  simp only [hu,ht,he,hl,if_true]
  rw [mapM_some (f:=fun i=>((cs.drop (i * c)).take c).map qgo) fun i hi=>h _ (by
    have hi:=List.mem_range.1 hi
    have:(i+1) * c≤n * c:=Nat.mul_le_mul_right c hi
    rw [Nat.add_mul] at this
    rw [List.length_take,List.length_drop,hl]
    omega) fun v hv=>hq v (List.mem_of_mem_drop (List.mem_of_mem_take hv))]
  rw [Option.map_some,chunks c n cs hl]
def IntCell (v:Value):Prop:= ∃ n:Int,v= .int .i64 n∧(Lit.int .i64 n).wf=true
theorem lits_int (d:Nat) {v:Value} (h:IntCell v):Tryz.prog.keyLits (d+1) 3 [v]=some [qgo v]:=by
  obtain ⟨s,rfl,hs⟩:=h
  simp [Program.keyLits,Tryz.underlying3,hs,qgo]
structure qf7 (cs:List Value):Prop where
  len:cs.length=84
  ints: ∀ v∈cs.take 4,IntCell v
  strs:qgm (cs.drop 4)
theorem lits_kind (d:Nat) {cs:List Value} (h:qf7 cs):Tryz.prog.keyLits (d+5) 158 cs=some (cs.map qgo):=by
  have hlen:=h.len
  have hst:cs=cs.take 3++((cs.drop 3).take 1++(cs.drop 4).take 80):=by
    have e1:(cs.drop 4).take 80=cs.drop 4:=List.take_of_length_le (by rw [List.length_drop];omega)
    rw [e1,show cs.drop 4=(cs.drop 3).drop 1 by rw [List.drop_drop],List.take_append_drop,List.take_append_drop]
  have l1:Tryz.prog.keyLits (d+4) 67 (cs.take 3)=some ((cs.take 3).map qgo):=
    lits_arr (n:=3) (c:=1) Tryz.underlying67 (by kernel_rfl) (by kernel_rfl) IntCell (fun cs hc hq=>by
      match cs,hc with
      | [a],_=>exact lits_int (d+2) (hq a (by simp))) (by rw [List.length_take];omega) fun v hv=>h.ints v (List.take_subset_take_left cs (by omega) hv)
  have l2:Tryz.prog.keyLits (d+4) 3 ((cs.drop 3).take 1)=some (((cs.drop 3).take 1).map qgo):=by
    have hl1:((cs.drop 3).take 1).length=1:=by rw [List.length_take,List.length_drop];omega
    have hm: ∀ v∈(cs.drop 3).take 1,IntCell v:=fun v hv=>h.ints v (by
      rw [List.take_drop] at hv
      exact List.mem_of_mem_drop hv)
    match h1:(cs.drop 3).take 1,hl1 with
    | [a],_=>exact lits_int (d+3) (hm a (by rw [h1];simp))
  have l3:Tryz.prog.keyLits (d+4) 156 ((cs.drop 4).take 80)=some (((cs.drop 4).take 80).map qgo):=
    lits_arr (n:=5) (c:=16) Tryz.underlying156 (by kernel_rfl) (by kernel_rfl) (fun v=> ∃ s,v= .string s∧s.size≤maxLen) (fun cs hc hq=>
      lits_arr (n:=8) (c:=2) Tryz.underlying155 (by kernel_rfl) (by kernel_rfl) (fun v=> ∃ s,v= .string s∧s.size≤maxLen) (fun cs hc hq=>lits_lab d hc hq) hc hq)
      (by rw [List.length_take,List.length_drop];omega) (h.strs.take 80)
  have c1:Tryz.prog.cellsOf 158=84:=by kernel_rfl
  have c2:Tryz.prog.cellsOf 67=3:=by kernel_rfl
  have c3:Tryz.prog.cellsOf 3=1:=by kernel_rfl
  have c4:Tryz.prog.cellsOf 156=80:=by kernel_rfl
  unfold Program.keyLits
  simp [Tryz.underlying158,c1,c2,c3,c4,hlen,l1,l2,l3]
  have hm:=congrArg (List.map qgo) hst
  simp only [List.map_append,List.map_take,List.map_drop] at hm
  exact hm.symm
def kindKey (C:Array Value):qn:=keyBytes (C.toList.map qgo)
theorem key_kind {C:Array Value} (h:qf7 C.toList):keyOf Tryz.prog 158 (.agg C)=some (.string (kindKey C)):=by
  have hk:Tryz.prog.keyType 158=true:=by kernel_rfl
  have hs:Tryz.prog.types.size+1=(Tryz.prog.types.size - 4)+5:=by
    have:5≤Tryz.prog.types.size:=by
      have:decide (5≤Tryz.prog.types.size)=true:=by kernel_rfl
      exact of_decide_eq_true this
    omega
  have hsz:C.size=84:=by simpa using h.len
  have c1:Tryz.prog.cellsOf 158=84:=by kernel_rfl
  have hl:=lits_kind (Tryz.prog.types.size - 4) h
  rw [← hs] at hl
  unfold keyOf
  simp only [Tryz.underlying158,hk,Value.formed,hsz,c1,Value.cells,hl,kindKey,beq_self_eq_true,Bool.and_self,if_true,Option.map_some]
theorem toLit_inj {v v':Value} (h:IntCell v∨ ∃ s,v= .string s∧s.size≤maxLen) (h':IntCell v'∨ ∃ s,v'= .string s∧s.size≤maxLen) (e:qgo v=qgo v'):v=v':=by
  rcases h with ⟨n,rfl,_⟩| ⟨s,rfl,_⟩<;>rcases h' with ⟨m,rfl,_⟩| ⟨u,rfl,_⟩<;>simp only [qgo,Lit.int.injEq,Lit.string.injEq,reduceCtorEq,true_and] at e
  · rw [e]
  · have e2:s.data=u.data:=Array.toList_inj.1 e
    cases s
    cases u
    simp only at e2
    rw [e2]
theorem qf7.all {cs:List Value} (h:qf7 cs): ∀ v∈cs,IntCell v∨ ∃ s,v= .string s∧s.size≤maxLen:=fun v hv=>by
  rw [← List.take_append_drop 4 cs,List.mem_append] at hv
  rcases hv with hv| hv
  · exact .inl (h.ints v hv)
  · exact .inr (h.strs v hv)
theorem map_inj_on {α β:Type} {f:α→β} {Q:α→Prop} (hf: ∀ a b,Q a→Q b→f a=f b→a=b): ∀ {l l':List α},(∀ a∈l,Q a)→(∀ a∈l',Q a)→l.map f=l'.map f→l=l'
  | [],[],_,_,_=>rfl
  | [],_::_,_,_,e=>by simp at e
  | _::_,[],_,_,e=>by simp at e
  | a::r,b::s,h,h',e=>by
    simp only [List.map_cons,List.cons.injEq] at e
    rw [hf a b (h a (by simp)) (h' b (by simp)) e.1,map_inj_on hf (fun x hx=>h x (by simp [hx])) (fun x hx=>h' x (by simp [hx])) e.2]
theorem kindKey_inj {C C':Array Value} (h:qf7 C.toList) (h':qf7 C'.toList) (e:kindKey C=kindKey C'):C=C':=by
  have hl:=keyLits_inj (lits_kind 0 h) (lits_kind 0 h') e
  exact Array.toList_inj.1 (map_inj_on (fun a b ha hb=>toLit_inj ha hb) h.all h'.all hl)
end
section
open Go.RowKit Go.Maps
theorem setL_get: ∀ (cs:List Value) (C:Array Value) (o i:Nat),o+cs.length≤C.size→(setL C o cs)[i]? =if o≤i∧i < o+cs.length then cs[i - o]? else C[i]?
  | [],C,o,i,_=>by
    rw [setL,if_neg (by simp only [List.length_nil];omega)]
  | v::r,C,o,i,h=>by
    simp only [List.length_cons] at h ⊢
    rw [setL,setL_get r _ _ _ (by simp;omega),Array.getElem?_setIfInBounds]
    by_cases h1:o=i
    · subst h1
      rw [if_neg (by omega),if_pos rfl,if_pos (by omega),if_pos (by omega)]
      simp
    · by_cases h2:o+1≤i∧i < o+1+r.length
      · rw [if_pos h2,if_pos (by omega),show i - o=(i - (o+1))+1 by omega,List.getElem?_cons_succ]
      · rw [if_neg h2,if_neg h1,if_neg (by omega)]
def kcell (L:List Lab) (i:Nat):Value:=((qav L)[i]?).getD (.string ⟨#[]⟩)
theorem kindTo_low {K0:Array Value} (hK:K0.size=84) {xs:List (List Lab)} (hl: ∀ L∈xs,L.length≤8) {m i:Nat} (hm:m≤5) (hi:i < 4∨4+m * 16≤i):(qeb K0 xs m)[i]? =K0[i]? :=by
  induction m with
  | zero=>rfl
  | succ m ih=>
    have h8:(xs.getD m []).length≤8:=by
      rw [List.getD_eq_getElem?_getD]
      cases h:xs[m]? with
      | none=>simp
      | some L=>exact hl L (List.mem_of_getElem? h)
    have hc:=qbi (xs.getD m [])
    rw [qeb,setL_get _ _ _ _ (by rw [qb9,hK,hc];omega),if_neg (by rw [hc];omega),ih (by omega) (by omega)]
theorem kindTo_get {K0:Array Value} (hK:K0.size=84) (hz: ∀ i,4≤i→i < 84→K0[i]? =some (.string ⟨#[]⟩)) {xs:List (List Lab)} (hl: ∀ L∈xs,L.length≤8) {m j i:Nat} (hm:m≤5) (hj:j < m) (hi:i < 16):
    (qeb K0 xs m)[4+j * 16+i]? =some (kcell (xs.getD j []) i):=by
  induction m with
  | zero=>omega
  | succ m ih=>
    have h8:(xs.getD m []).length≤8:=by
      rw [List.getD_eq_getElem?_getD]
      cases h:xs[m]? with
      | none=>simp
      | some L=>exact hl L (List.mem_of_getElem? h)
    have hc:=qbi (xs.getD m [])
    rw [qeb,setL_get _ _ _ _ (by rw [qb9,hK,hc];omega)]
    by_cases h:j=m
    · subst h
      by_cases h1:i < 2 * (xs.getD j []).length
      · rw [if_pos (by rw [hc];omega),show 4+j * 16+i - (4+j * 16)=i by omega]
        unfold kcell
        rw [List.getElem?_eq_getElem (by rw [hc];exact h1)]
        rfl
      · rw [if_neg (by rw [hc];omega),kindTo_low hK hl (by omega) (by omega),hz _ (by omega) (by omega)]
        unfold kcell
        rw [List.getElem?_eq_none (by rw [hc];omega)]
        rfl
    · rw [if_neg (by rw [hc];omega)]
      exact ih (by omega) (by omega)
theorem kind0_get (n0 n1 n2 port:Int):(kind0 n0 n1 n2 port)[0]? =some (.int .i64 n0)∧(kind0 n0 n1 n2 port)[1]? =some (.int .i64 n1)∧(kind0 n0 n1 n2 port)[2]? =some (.int .i64 n2)∧(kind0 n0 n1 n2 port)[3]? =some (.int .i64 port)∧ ∀ i,4≤i→i < 84→(kind0 n0 n1 n2 port)[i]? =some (.string ⟨#[]⟩):=by
  have hs:Tryz.zeroCells158.size=84:=by kernel_rfl
  have hz: ∀ i:Fin 84,4≤i.val→Tryz.zeroCells158[i.val]? =some (.string ⟨#[]⟩):=by
    have:(List.range 84).all (fun i=>decide (i < 4) || (match Tryz.zeroCells158[i]? with| some (.string s)=>s.data.toList.length==0| _=>false))=true:=by kernel_rfl
    intro i hi
    have h:=List.all_eq_true.1 this i.val (List.mem_range.2 i.isLt)
    rw [Bool.or_eq_true] at h
    rcases h with h| h
    · simp at h;omega
    · split at h
      · rename_i s hs
        rw [hs]
        have h0:s.data.toList= []:=List.eq_nil_of_length_eq_zero (by simpa using h)
        cases s with
        | mk d=>
          have:d= #[]:=Array.toList_inj.1 h0
          rw [this]
      · cases h
  rw [kind0_over]
  refine ⟨?_,?_,?_,?_,fun i h1 h2=> ?_⟩
  · simp [hs]
  · simp [hs]
  · simp [hs]
  · simp [hs]
  · rw [Array.getElem?_setIfInBounds_ne (by omega),Array.getElem?_setIfInBounds_ne (by omega),Array.getElem?_setIfInBounds_ne (by omega),Array.getElem?_setIfInBounds_ne (by omega)]
    exact hz ⟨i,h2⟩ h1
def qcl (v:PodV):Array Value:=qeb (kind0 v.n0 v.n1 v.n2 v.port) v.lists 5
def qd8 (v:PodV):qn:=kindKey (qcl v)
structure PodV.Fine (v:PodV):Prop where
  ints: ∀ n∈ [v.n0,v.n1,v.n2,v.port],(Lit.int .i64 n).wf=true
  len: ∀ L∈v.lists,L.length≤8
  labs: ∀ L∈v.lists,∀ x∈L,1≤x.1.size∧x.1.size≤maxLen∧x.2.size≤maxLen
theorem labAt_mem {L:List Lab} {k:Nat} (h:k < L.length):qab L k∈L:=by
  unfold qab
  rw [List.getElem?_eq_getElem h]
  exact List.getElem_mem h
theorem kcell_str {L:List Lab} (h: ∀ x∈L,x.1.size≤maxLen∧x.2.size≤maxLen) (i:Nat): ∃ s,kcell L i= .string s∧s.size≤maxLen:=by
  unfold kcell
  by_cases hi:i < 2 * L.length
  · have hk:i / 2 < L.length:=by omega
    have hg:=qcp L (i / 2) hk
    have hx:=h _ (labAt_mem hk)
    rcases Nat.mod_two_eq_zero_or_one i with h2| h2
    · rw [show i=i / 2 * 2 by omega,hg.1]
      exact ⟨_,rfl,hx.1⟩
    · rw [show i=i / 2 * 2+1 by omega,hg.2]
      exact ⟨_,rfl,hx.2⟩
  · rw [List.getElem?_eq_none (by rw [qbi];omega)]
    exact ⟨_,rfl,by unfold maxLen;decide⟩
theorem qfe (v:PodV):(qcl v).size=84:=by unfold qcl;rw [qb9,qfs]
theorem kindArr_low (v:PodV) (hf:v.Fine):(qcl v)[0]? =some (.int .i64 v.n0)∧(qcl v)[1]? =some (.int .i64 v.n1)∧(qcl v)[2]? =some (.int .i64 v.n2)∧(qcl v)[3]? =some (.int .i64 v.port):=by
  obtain ⟨h0,h1,h2,h3,_⟩:=kind0_get v.n0 v.n1 v.n2 v.port
  unfold qcl
  have hl:=fun i (hi:i < 4)=>kindTo_low (qfs v.n0 v.n1 v.n2 v.port) hf.len (m:=5) (Nat.le_refl _) (i:=i) (.inl hi)
  exact ⟨by rw [hl 0 (by omega)];exact h0,by rw [hl 1 (by omega)];exact h1,by rw [hl 2 (by omega)];exact h2,by rw [hl 3 (by omega)];exact h3⟩
theorem kindArr_high (v:PodV) (hf:v.Fine) {j i:Nat} (hj:j < 5) (hi:i < 16):(qcl v)[4+j * 16+i]? =some (kcell (v.lists.getD j []) i):=by
  obtain ⟨_,_,_,_,hz⟩:=kind0_get v.n0 v.n1 v.n2 v.port
  exact kindTo_get (qfs _ _ _ _) hz hf.len (Nat.le_refl _) hj hi
theorem qea (v:PodV) {j:Nat} (hj:j < 5):v.lists.getD j []∈v.lists:=by
  rw [List.getD_eq_getElem?_getD,List.getElem?_eq_getElem (show j < v.lists.length from hj)]
  exact List.getElem_mem _
theorem qet (v:PodV) (hf:v.Fine):qf7 (qcl v).toList:=by
  refine ⟨by simpa using qfe v,fun x hx=> ?_,fun x hx=> ?_⟩
  · obtain ⟨i,hi⟩:=List.mem_iff_getElem?.1 hx
    rw [List.getElem?_take] at hi
    split at hi
    · rename_i h4
      obtain ⟨h0,h1,h2,h3⟩:=kindArr_low v hf
      rw [Array.getElem?_toList] at hi
      have hw:=hf.ints
      simp only [List.mem_cons,List.not_mem_nil,or_false,forall_eq_or_imp,forall_eq] at hw
      rcases (by omega:i=0∨i=1∨i=2∨i=3) with rfl| rfl| rfl| rfl
      · rw [h0] at hi;cases hi;exact ⟨_,rfl,hw.1⟩
      · rw [h1] at hi;cases hi;exact ⟨_,rfl,hw.2.1⟩
      · rw [h2] at hi;cases hi;exact ⟨_,rfl,hw.2.2.1⟩
      · rw [h3] at hi;cases hi;exact ⟨_,rfl,hw.2.2.2⟩
    · cases hi
  · obtain ⟨i,hi⟩:=List.mem_iff_getElem?.1 hx
    rw [List.getElem?_drop,Array.getElem?_toList] at hi
    have hlt:4+i < 84:=by
      rw [← qfe v]
      exact (Array.getElem?_eq_some_iff.1 hi).1
    rw [show 4+i=4+i / 16 * 16+i % 16 by omega,kindArr_high v hf (by omega) (Nat.mod_lt _ (by omega))] at hi
    cases hi
    exact kcell_str (fun x hx=>(hf.labs _ (qea v (by omega)) x hx).2) _
theorem kcell_inj {L L':List Lab} (hl:L.length≤8) (hl':L'.length≤8) (h: ∀ x∈L,1≤x.1.size) (h': ∀ x∈L',1≤x.1.size) (e: ∀ i,i < 16→kcell L i=kcell L' i):L=L':=by
  have hin: ∀ {M:List Lab} {k:Nat},k < M.length→kcell M (k * 2)= .string (qab M k).1∧kcell M (k * 2+1)= .string (qab M k).2:=fun {M k} hk=>by
    unfold kcell
    rw [(qcp M k hk).1,(qcp M k hk).2]
    exact ⟨rfl,rfl⟩
  have hout: ∀ {M:List Lab} {k:Nat},M.length≤k→kcell M (k * 2)= .string ⟨#[]⟩:=fun {M k} hk=>by
    unfold kcell
    rw [List.getElem?_eq_none (by rw [qbi];omega)]
    rfl
  apply List.ext_getElem?
  intro k
  by_cases h1:k < L.length
  · have e1:=e (k * 2) (by omega)
    rw [(hin h1).1] at e1
    by_cases h2:k < L'.length
    · rw [(hin h2).1] at e1
      have e2:=e (k * 2+1) (by omega)
      rw [(hin h1).2,(hin h2).2] at e2
      have a1:(qab L k)=(qab L' k):=Prod.ext (by simpa using e1) (by simpa using e2)
      unfold qab at a1
      rw [List.getElem?_eq_getElem h1,List.getElem?_eq_getElem h2] at a1 ⊢
      simp only [Option.getD_some] at a1
      rw [a1]
    · rw [hout (by omega)] at e1
      have hx:=h _ (labAt_mem h1)
      simp only [Value.string.injEq] at e1
      rw [e1] at hx
      exact absurd hx (by decide)
  · by_cases h2:k < L'.length
    · have e1:=e (k * 2) (by omega)
      rw [(hin h2).1,hout (by omega)] at e1
      have hx:=h' _ (labAt_mem h2)
      simp only [Value.string.injEq] at e1
      rw [← e1] at hx
      exact absurd hx (by decide)
    · rw [List.getElem?_eq_none (by omega),List.getElem?_eq_none (by omega)]
theorem kindV_inj {v v':PodV} (hf:v.Fine) (hf':v'.Fine) (e:qd8 v=qd8 v'):v=v':=by
  have hC:=kindKey_inj (qet v hf) (qet v' hf') e
  obtain ⟨a0,a1,a2,a3⟩:=kindArr_low v hf
  obtain ⟨b0,b1,b2,b3⟩:=kindArr_low v' hf'
  rw [hC] at a0 a1 a2 a3
  rw [a0] at b0
  rw [a1] at b1
  rw [a2] at b2
  rw [a3] at b3
  have hL: ∀ j,j < 5→v.lists.getD j []=v'.lists.getD j []:=fun j hj=>by
    refine kcell_inj (hf.len _ (qea v hj)) (hf'.len _ (qea v' hj)) (fun x hx=>(hf.labs _ (qea v hj) x hx).1) (fun x hx=>(hf'.labs _ (qea v' hj) x hx).1) fun i hi=> ?_
    have h1:=kindArr_high v hf hj hi
    rw [hC,kindArr_high v' hf' hj hi] at h1
    exact (Option.some.inj h1).symm
  have l0:=hL 0 (by omega)
  have l1:=hL 1 (by omega)
  have l2:=hL 2 (by omega)
  have l3:=hL 3 (by omega)
  have l4:=hL 4 (by omega)
  obtain ⟨x0,x1,x2,x3,y0,y1,y2,y3,y4⟩:=v
  obtain ⟨x0',x1',x2',x3',y0',y1',y2',y3',y4'⟩:=v'
  simp only [Option.some.injEq,Value.int.injEq,true_and] at b0 b1 b2 b3
  simp only [PodV.lists,List.getD_cons_zero,List.getD_cons_succ] at l0 l1 l2 l3 l4
  subst b0 b1 b2 b3 l0 l1 l2 l3 l4
  rfl
end
end Go.Proofs.YtchddaafibjmgaaGreat
