import Derived.Test.YtchddaafibjmgaaGreatMA12
import Derived.Conc.LoneSelectN
import Derived.Test.YtchddaafibjmgaaGreatMA6
import Derived.Conc.SmallLaws
import Derived.Test.YtchddaafibjmgaaGreatMA18
set_option maxRecDepth 100000
set_option maxHeartbeats 20000000
namespace Go.Proofs.YtchddaafibjmgaaGreat
section
open Go.RowKit Go.Maps
theorem pState_any {F:Nat→Prop} {w:World} {Y:Nat} {hd:Head} {g:Gh} (H:BMem F w Y hd g) (hS:qg7 g) (hN:g.NN.length≤64) (hnk: ∀ p∈g.NN,p.1.length≤maxLen) (hpk: ∀ p∈g.PP,p.1.length≤maxLen) (hpn: ∀ p∈g.PP,p.2.2.node.length≤maxLen):
    Calls Tryz.prog 34 #[.pointer (some ⟨Y,0,none⟩)] w fun e w'=> ∃ a1 c1 a2 c2,e= .returned (.agg #[.int .i64 hd.now,.slice a1 g.NN.length c1,.slice a2 g.PP.length c2,.int .i64 g.WW.length])∧w'.ownsRow 0 91 5 (.slice a1 g.NN.length c1) g.NN.length (g.NN.flatMap fun p=>useRow g p.1)∧w'.ownsRow 0 94 4 (.slice a2 g.PP.length c2) g.PP.length (g.PP.flatMap qfj)∧
      (∀ b,(Value.slice a1 g.NN.length c1).ownBlock=some b→w.heap.size≤b)∧(∀ b,(Value.slice a2 g.PP.length c2).ownBlock=some b→w.heap.size≤b)∧Below w.heap.size w w':=by
  have hx3:w.cell? ⟨Y,3,none⟩=some (.int .i64 hd.now):=H.cells.2.2.2.1
  have hY:=H.lt Y H.fy
  obtain ⟨w0,hw0⟩: ∃ W,W=(w.alloc (.cells #[.int .i64 0,.slice none 0 0,.slice none 0 0,.int .i64 0] 99)).drew:=⟨_,rfl⟩
  have hb0:Below w.heap.size w w0:=by rw [hw0];exact (qi _ _).drew
  have H0:=H.below hb0
  have hx0:=H0.cells.2.2.2.1
  have cU:=uses_any H0 hS hN hnk hpn
  have cL:=fun W (h:Below w0.heap.size w0 W)=>lies_any (H0.below h) hS.pods hpk
  have hx9:=H0.cC
  have hlenc: ∀ W,Below w0.heap.size w0 W→ ∀ ty,(Builtin.len_ #[120] ty #[.chan (some g.bc)]).run Tryz.prog W= .ok (.int .i64 g.WW.length) W:=by
    intro W h1 ty
    obtain ⟨s,r,ho⟩:=(H0.below h1).ch.ob
    have:=Go.Conc.run_len_chan (P:=Tryz.prog) 120 ty Tryz.underlying120 ho
    simpa [goInt] using this
  have lc0:=hlenc w0 (Below.refl _ _)
  have zY:Y < w0.heap.size:=Nat.lt_of_lt_of_le hY hb0.size
  have zv:w.heap.size < w0.heap.size:=by rw [hw0];simp
  have hYv: ¬ Y=w.heap.size:=by omega
  have hYv': ¬ w.heap.size=Y:=by omega
  rw [hw0] at cU
  have cL':=cL
  rw [hw0] at cL hlenc hx9 lc0
  have zY':=zY
  rw [hw0] at zY'
  have zv':=zv
  rw [hw0] at zv'
  have hsz:=hb0.size
  clear H H0 hS
  go_enter Tryz.func34,Tryz.ntmps34
  go_wp2
  go_region_with (first
    | (go_at_call 64;refine cU.mono ?_;rintro e w1 ⟨a1,c1,rfl,r1,f1,b1⟩;have lc1:=hlenc w1 b1;have q1:=fun o=>b1.cell (p:=⟨Y,o,none⟩) zY';have v1:=fun o=>b1.cell (p:=⟨w.heap.size,o,none⟩) zv';have n1:=fun o=>b1.frozen (p:=⟨w.heap.size,o,none⟩) zv')
    | (go_at_call 65;refine (cL w1 b1).mono ?_;rintro e w2 ⟨a2,c2,rfl,r2,f2,b2⟩;have lc2:=hlenc w2 (qj b1 b2);have q2:=fun o=>b2.cell (p:=⟨Y,o,none⟩) (Nat.lt_of_lt_of_le zY' b1.size);have v2:=fun o=>b2.cell (p:=⟨w.heap.size,o,none⟩) (Nat.lt_of_lt_of_le zv' b1.size);have n2:=fun o=>b2.frozen (p:=⟨w.heap.size,o,none⟩) (Nat.lt_of_lt_of_le zv' b1.size)))
  all_goals go_wp2
  all_goals have K:Kept (fun b=>b=w.heap.size) w2 ((((w2.setCell ⟨w.heap.size,0,none⟩ (.int .i64 hd.now)).setCell ⟨w.heap.size,1,none⟩ (.slice a1 g.NN.length c1)).setCell ⟨w.heap.size,2,none⟩ (.slice a2 g.PP.length c2)).setCell ⟨w.heap.size,3,none⟩ (.int .i64 g.WW.length)):=((((Kept.refl (fun b=>b=w.heap.size) w2).setCell (p:=⟨w.heap.size,0,none⟩) (fun _=>rfl) _).setCell (p:=⟨w.heap.size,1,none⟩) (fun _=>rfl) _).setCell (p:=⟨w.heap.size,2,none⟩) (fun _=>rfl) _).setCell (p:=⟨w.heap.size,3,none⟩) (fun _=>rfl) _
  all_goals rw [← hw0] at b1 f1
  all_goals have h1:=(Kept.of_below (F:=qq) b2).ownsRow r1 fun _ _=>id
  all_goals have hs1:=b1.size
  all_goals have g1:=K.ownsRow h1 fun b hb e=>by have:=f1 b hb;omega
  all_goals have g2:=K.ownsRow r2 fun b hb e=>by have:=f2 b hb;omega
  all_goals have hB:=(qj hb0 (qj b1 b2)).trans (K.below (Nat.le_trans hsz (Nat.le_trans hs1 b2.size)) fun i hi e=>by omega)
  all_goals (try simp only [Exit.inBlock,Exit.then])
  all_goals refine bodyPost_ret (v:= .agg #[.int .i64 hd.now,.slice a1 g.NN.length c1,.slice a2 g.PP.length c2,.int .i64 g.WW.length]) (by simp [results,Tryz.results34,go_sem,v2,v1]) rfl ?_
  all_goals exact ⟨a1,c1,a2,c2,rfl,g1,g2,fun b hb=>Nat.le_trans hsz (f1 b hb),fun b hb=>Nat.le_trans (Nat.le_trans hsz hs1) (f2 b hb),hB⟩
end
section
open Go.RowKit Go.Maps
attribute [local go_sem] Go.wp_at_zero Go.wp_at_succ
theorem pnew_no (hold:Int) (rem whole:Bool) (w:World) (h:hold < 1∨1000 < hold):
    Calls Tryz.prog 13 #[.agg #[.int .i64 hold,.bool rem,.bool whole]] w fun e w'=>e= .returned (.tuple #[.pointer none,.int .i64 1])∧Below w.heap.size w w':=by
  by_cases h1:hold < 1
  · go_enter Tryz.func13,Tryz.ntmps13
    go_wp2
    go_ret2
    exact ⟨rfl,qi _ _⟩
  · have h2:1000 < hold:=by omega
    clear h
    go_enter Tryz.func13,Tryz.ntmps13
    go_wp2
    go_ret2
    exact ⟨rfl,qi _ _⟩
theorem newMemory_any (w:World):Calls Tryz.prog 37 #[] w fun e w'=> ∃ b,w.heap.size≤b∧b+2 < w'.heap.size∧e= .returned (.agg #[.map (some b),.map (some (b+1)),.map (some (b+2))])∧Below w.heap.size w w'∧w'.heap[b]? =some (.map #[] 0)∧w'.heap[b+1]? =some (.map #[] 0)∧w'.heap[b+2]? =some (.map #[] 0):=by
  have hmm:= @run_makeMap Tryz.prog
  go_enter Tryz.func37,Tryz.ntmps37
  go_wp2
  refine bodyPost_ret (v:= .agg #[.map (some (w.heap.size+1)),.map (some (w.heap.size+1+1)),.map (some (w.heap.size+1+1+1))]) (by simp [results,Tryz.results37,go_sem]) rfl ?_
  refine ⟨w.heap.size+1,by omega,by simp,rfl,qj (qj (qj (qi _ _) (qi _ _)) (qi _ _)) (qi _ _),?_,?_,?_⟩
  · rw [Below.heap_alloc _ _ _ (by simp<;>omega),Below.heap_alloc _ _ _ (by simp)]
    simpa using qm (w.alloc (.cells #[.map (some (w.heap.size+1)),.map (some (w.heap.size+1+1)),.map (some (w.heap.size+1+1+1))] 118)) (.map #[] 0)
  · rw [Below.heap_alloc _ _ _ (by simp)]
    simpa using qm ((w.alloc (.cells #[.map (some (w.heap.size+1)),.map (some (w.heap.size+1+1)),.map (some (w.heap.size+1+1+1))] 118)).alloc (.map #[] 0)) (.map #[] 0)
  · simpa using qm (((w.alloc (.cells #[.map (some (w.heap.size+1)),.map (some (w.heap.size+1+1)),.map (some (w.heap.size+1+1+1))] 118)).alloc (.map #[] 0)).alloc (.map #[] 0)) (.map #[] 0)
theorem infoPodA:(Tryz.prog.info? 77).map (fun i=>(i.zero,i.size,i.bytes))=some (some (.agg #[.string ⟨#[]⟩,.int .i64 0,.int .i64 0,.int .i64 0,.int .i64 0,.slice none 0 0,.slice none 0 0,.slice none 0 0,.slice none 0 0,.slice none 0 0]),10,168):=by kernel_rfl
theorem mkChan (w:World):(Instr.makeChan 120 (.int .i64 128)).run Tryz.prog w= .ok (.chan (some w.heap.size)) (w.alloc (.chan 128 #[] false 0 0 false)):=by
  obtain ⟨i0,hi,hz0,hz1,hz2⟩:=info_parts infoPodA
  simpa using Go.Conc.run_makeChan (P:=Tryz.prog) (w:=w) Tryz.underlying120 hi .i64 128 (by omega) (by rw [hz2];omega)
theorem qf1 {P:Program} {w:World} {k:TypeId} {b:Nat} (h:w.heap[b]? =some (.map #[] 0)):qai P w k b []:=⟨#[],0,h,⟨by simp,MapKept.stamped_empty 0,by simp⟩,Nat.le_refl _,rfl⟩
def Gh.empty (bn bp bf bv ba bc:Nat):Gh:=⟨bn,bp,bf,bv,ba,[],[],[],[],[],bc,[]⟩
theorem BMem.init {w w':World} {Y bn bp bf bv ba bc:Nat} {hd:Head} (hbox:w'.heap[Y]? =some (.cells (boxCells hd (Gh.empty bn bp bf bv ba bc)) 122 (0,0))) (hn:w'.heap[bn]? =some (.map #[] 0)) (hp:w'.heap[bp]? =some (.map #[] 0)) (hf:w'.heap[bf]? =some (.map #[] 0))
    (hv:w'.heap[bv]? =some (.map #[] 0)) (ha:w'.heap[ba]? =some (.map #[] 0)) (hc:w'.heap[bc]? =some (.chan 128 #[] false 0 0 false)) (hdis: [bn,bp,bf,bv,ba].Nodup) (hge: ∀ b∈ [Y,bc,bn,bp,bf,bv,ba],w.heap.size≤b):BMem (grow (fun _=>False) w w') w' Y hd (Gh.empty bn bp bf bv ba bc):=by
  have hin: ∀ b∈ [Y,bc,bn,bp,bf,bv,ba],grow (fun _=>False) w w' b:=fun b hb=> .inr ⟨hge b hb,by
    simp only [List.mem_cons,List.not_mem_nil,or_false] at hb
    rcases hb with rfl| rfl| rfl| rfl| rfl| rfl| rfl
    · exact qo hbox
    · exact qo hc
    · exact qo hn
    · exact qo hp
    · exact qo hf
    · exact qo hv
    · exact qo ha⟩
  refine ⟨fun b h=>h.elim (fun h=>h.elim) (fun h=>h.2),hin _ (by simp),fun b hb=>hin b ?_,hbox,qf1 hn,qf1 hp,qf1 hf,qf1 hv,qf1 ha,fun p hp=> ?_,fun p hp=> ?_,fun p hp=> ?_,fun p hp=> ?_,?_,?_,⟨hin _ (by simp [Gh.empty]),⟨0,0,hc⟩,by simp [Gh.empty],fun p hp=> ?_⟩⟩
  · simp only [Gh.maps,Gh.empty,List.map_nil,List.append_nil] at hb
    exact List.mem_cons_of_mem _ (List.mem_cons_of_mem _ hb)
  · simp [Gh.empty] at hp
  · simp [Gh.empty] at hp
  · simp [Gh.empty] at hp
  · simp [Gh.empty] at hp
  · simpa [Gh.maps,Gh.empty] using hdis
  · simp [Gh.empty]
  · simp [Gh.empty] at hp
theorem pnew_yes (hold:Int) (rem whole:Bool) (w:World) (h1:1≤hold) (h2:hold≤1000):
    Calls Tryz.prog 13 #[.agg #[.int .i64 hold,.bool rem,.bool whole]] w fun e w'=> ∃ Y g,e= .returned (.tuple #[.pointer (some ⟨Y,0,none⟩),.int .i64 0])∧w.heap.size≤Y∧BMem (grow (fun _=>False) w w') w' Y ⟨hold,rem,whole,0⟩ g∧(g.NN= []∧g.PP= []∧g.FF= []∧g.VV= []∧g.AA= []∧g.WW= [])∧Below w.heap.size w w':=by
  have hmm:= @run_makeMap Tryz.prog
  have hmc:=mkChan
  have c1:=fun W=>newMemory_any W
  go_enter Tryz.func13,Tryz.ntmps13
  go_wp2
  go_region_held3 (fun w'=>w'.cell? ⟨w.heap.size,0,none⟩=some (.int .i64 hold)∧w'.cell? ⟨w.heap.size,1,none⟩=some (.bool rem)∧w'.cell? ⟨w.heap.size,2,none⟩=some (.bool whole)) (go_keep)
    (first
      | (go_at_call 37;refine (c1 _).mono ?_;rintro e w1 ⟨b,hb,hb2,rfl,hbl,m0,m1,m2⟩;have f0:w1.cell? ⟨w.heap.size,0,none⟩=some (.int .i64 hold):=(hbl.cell (p:=⟨w.heap.size,0,none⟩) (by simp<;>omega)).trans (by go_simp);have f1:w1.cell? ⟨w.heap.size,1,none⟩=some (.bool rem):=(hbl.cell (p:=⟨w.heap.size,1,none⟩) (by simp<;>omega)).trans (by go_simp);have f2:w1.cell? ⟨w.heap.size,2,none⟩=some (.bool whole):=(hbl.cell (p:=⟨w.heap.size,2,none⟩) (by simp<;>omega)).trans (by go_simp)))
  all_goals go_wp2
  all_goals go_ret2
  all_goals have hz:=hbl.size
  all_goals simp at hz hb
  all_goals refine ⟨_,Gh.empty _ _ _ _ _ _,rfl,?_,BMem.init (w:=w) (qgl (by simp)) ?_ ?_ ?_ ?_ ?_ ?_ ?_ ?_,⟨rfl,rfl,rfl,rfl,rfl,rfl⟩,?_⟩
  all_goals first
    | (show Below _ _ _;repeat' (first| exact qi _ _| (refine Below.drew ?_)| (refine qj ?_ (qi _ _))| (refine qj ?_ hbl)))
    | (show _=some (Obj.map #[] 0);repeat' (first| exact m0| exact m1| exact m2| (apply qgl;simp<;>omega)| apply at_old| apply at_call hbl))
    | (show _=some (Obj.chan 128 #[] false 0 0 false);repeat' (first| (apply qgl;simp<;>omega)| apply at_old| apply at_call hbl))
    | omega
    | (simp<;>omega)
    | (intro b hb';simp at hb';rcases hb' with rfl| rfl| rfl| rfl| rfl| rfl| rfl<;>simp<;>omega)
end
section
open Go.RowKit Go.Maps
section
variable {F:Nat→Prop} {w:World} {Y:Nat} {a:Abs}
theorem spec_new (hold:Int) (rem whole:Bool) (w:World) (h1:1≤hold) (h2:hold≤1000):
    Calls Tryz.prog 13 #[.agg #[.int .i64 hold,.bool rem,.bool whole]] w fun e w'=> ∃ Y,e= .returned (.tuple #[.pointer (some ⟨Y,0,none⟩),.int .i64 0])∧BSt (grow (fun _=>False) w w') w' Y ⟨hold,0,[],[],[],[]⟩∧Below w.heap.size w w':=by
  refine (pnew_yes hold rem whole w h1 h2).mono ?_
  rintro e w' ⟨Y,g,he,_,H,⟨e1,e2,e3,e4,e5,e6⟩,hb⟩
  refine ⟨Y,he,⟨_,g,H,⟨⟨⟨by rw [e2];simp,fun p hp=> ?_,fun p hp=> ?_⟩,by rw [e1];simp,fun p hp=> ?_,fun p hp=> ?_,fun p hp=> ?_,⟨h1,h2⟩,by simp⟩,fun k v h=> ?_,fun k v h=> ?_,fun c x h=> ?_,fun c x h=> ?_⟩,?_⟩,hb⟩
  · rw [e1] at hp;simp at hp
  · rw [e2] at hp;simp at hp
  · rw [e1] at hp;simp at hp
  · rw [e2] at hp;simp at hp
  · rw [e3] at hp;simp at hp
  · rw [e4] at h;cases h
  · rw [e4] at h;cases h
  · rw [e5] at h;cases h
  · rw [e5] at h;cases h
  · unfold qcc Gh.nodes Gh.pods
    rw [e1,e2,e3,e6]
    rfl
theorem spec_put (B:BSt F w Y a) (n:qu) (hok:n.ok w):
    Calls Tryz.prog 16 #[.pointer (some ⟨Y,0,none⟩),.agg n.cells] w fun e w'=> ∃ F',e= .returned (.int .i64 (a.putErr n.name n.val))∧Left F w Y (a.put n.name n.val) F' w':=by
  obtain ⟨hd,g,H,S,rfl⟩:=B
  have hpe:g.putErr n=(qcc hd g).putErr n.name n.val:=by
    unfold Gh.putErr Abs.putErr
    rw [nerr_val]
    have:(getL g.NN (ky n.name)).isNone=(getL g.nodes (ky n.name)).isNone:=by rw [qez];cases getL g.NN (ky n.name)<;>rfl
    rw [this,← len_nodes]
    rfl
  refine (pPutNode_any H n hok (by have:=S.b.nn;omega) (by have:=S.b.ff_len H.ord;omega)).mono ?_
  rintro e w' ⟨g',he,H',hk,hT⟩
  rw [hpe] at he
  refine ⟨_,he,⟨⟨hd,g',H',?_,?_⟩,fun b h=>h,hk⟩⟩
  · rcases hT with ⟨_,rfl⟩| ⟨h0,v,rfl⟩
    · exact S
    · unfold Gh.putErr at h0
      have hgd:n.err=0:=by
        by_cases h:n.err=0
        · exact h
        · rw [if_pos h] at h0;exact absurd h0 h
      have hg:=qu.err_good.1 hgd
      unfold qu.good at hg
      simp only [Bool.and_eq_true] at hg
      refine S.put H.ord (by rw [qdu];exact (nameB_size hg.1.1).2) ?_ (amtsB_le hg.1.2)
      rw [if_neg (by simp [hgd])] at h0
      by_cases h:(getL g.NN (ky n.name)).isSome=true
      · exact .inl h
      · right
        have h':(getL g.NN (ky n.name)).isNone=true:=by
          cases e:getL g.NN (ky n.name) with
          | none=>rfl
          | some x=>rw [e] at h;exact absurd rfl h
        by_cases hl:32≤g.NN.length
        · rw [if_pos ⟨h',hl⟩] at h0;cases h0
        · omega
  · unfold Abs.put
    rw [← hpe]
    rcases hT with ⟨h0,rfl⟩| ⟨h0,v,rfl⟩
    · rw [if_neg h0]
    · rw [if_pos h0]
      exact abs_put _ _ _
theorem spec_dropN (B:BSt F w Y a) (s:ByteArray) (hs:s.size≤maxLen):
    Calls Tryz.prog 19 #[.pointer (some ⟨Y,0,none⟩),.string s] w fun e w'=> ∃ F',e= .returned (.int .i64 (a.dropNErr (ky s)))∧Left F w Y (a.dropN (ky s)) F' w':=by
  obtain ⟨hd,g,H,S,rfl⟩:=B
  refine (pDropNode_any H s hs).mono ?_
  rintro e w' ⟨r,g',he,H',hk,hT⟩
  have hi:(getL (qcc hd g).N (ky s)).isSome=(getL g.NN (ky s)).isSome:=isSome_nodes g _
  refine ⟨F,?_,⟨⟨hd,g',H',?_,?_⟩,qg5,hk⟩⟩
  · rw [he]
    unfold Abs.dropNErr
    rw [hi]
    rcases hT with ⟨h,rfl,_⟩| ⟨h,rfl,_⟩
    · rw [h];rfl
    · rw [h];rfl
  · rcases hT with ⟨h,_,rfl⟩| ⟨h,_,rfl⟩
    · exact S
    · exact S.dropN H.ord _ h
  · unfold Abs.dropN
    rw [hi]
    rcases hT with ⟨h,_,rfl⟩| ⟨h,_,rfl⟩
    · rw [h];rfl
    · rw [h,if_pos rfl]
      exact abs_dropN _
theorem admits_abs (hd:Head) (g:Gh) (k:qn):g.admits k=(qcc hd g).admits k:=by
  unfold Gh.admits Abs.admits
  show _=if (getL g.pods k).isSome=true then 5 else if 128≤g.pods.length then 6 else 0
  rw [isSome_pods,len_pods]
theorem spec_bind (B:BSt F w Y a) (p:PodD) (node:ByteArray) (hok:p.ok w) (hn:node.size≤maxLen):
    Calls Tryz.prog 21 #[.pointer (some ⟨Y,0,none⟩),.agg p.cells,.string node] w fun e w'=> ∃ F',e= .returned (.int .i64 (a.bindErr p.name p.val (ky node)))∧Left F w Y (a.bind p.name p.val (ky node)) F' w':=by
  obtain ⟨hd,g,H,S,rfl⟩:=B
  have hbe:g.bindErr p (ky node)=(qcc hd g).bindErr p.name p.val (ky node):=by
    unfold Gh.bindErr Abs.bindErr
    rw [err_val,admits_abs hd]
    have:(getL g.NN (ky node)).isNone=(getL (qcc hd g).N (ky node)).isNone:=by
      show _=(getL g.nodes (ky node)).isNone
      rw [qez];cases getL g.NN (ky node)<;>rfl
    rw [this]
  refine (pBind_any H p node hok hn (by have:=S.b.small.pods;omega) (by have:=S.b.ff_len H.ord;omega)).mono ?_
  rintro e w' ⟨g',he,H',hk,hT⟩
  rw [hbe] at he
  refine ⟨_,he,⟨⟨hd,g',H',?_,?_⟩,fun b h=>h,hk⟩⟩
  · rcases hT with ⟨_,rfl⟩| ⟨h0,q,rfl⟩
    · exact S
    · unfold Gh.bindErr at h0
      have hgd:p.err=0:=by
        by_cases h:p.err=0
        · exact h
        · rw [if_pos h] at h0;exact absurd h0 h
      rw [if_neg (by simp [hgd])] at h0
      have hg:=PodD.good_Good (PodD.err_good.1 hgd)
      have hno:(getL g.NN (ky node)).isSome=true:=by
        cases e:getL g.NN (ky node) with
        | none=>rw [e] at h0;simp at h0
        | some x=>rfl
      have hno': ¬ (getL g.NN (ky node)).isNone=true:=by
        cases e:getL g.NN (ky node) with
        | none=>rw [e] at hno;cases hno
        | some x=>simp
      rw [if_neg hno'] at h0
      unfold Gh.admits at h0
      have a1:getL g.PP (ky p.name)=none:=by
        cases e:getL g.PP (ky p.name) with
        | none=>rfl
        | some x=>rw [e] at h0;simp at h0
      have a2:g.PP.length < 128:=by
        rw [a1] at h0
        simp at h0
        omega
      exact S.lay H.ord (x:=p.lies (ky node) true 0) ⟨a1,a2,by rw [qdu];exact hg.name.2,hno,hg.need,by show (0:Int)≤0;omega,S.b.now.1⟩
  · unfold Abs.bind
    rw [← hbe]
    rcases hT with ⟨h0,rfl⟩| ⟨h0,q,rfl⟩
    · rw [if_neg h0]
    · rw [if_pos h0]
      exact abs_lay (x:=p.lies (ky node) true 0) _ _
theorem spec_drop (B:BSt F w Y a) (s:ByteArray) (hs:s.size≤maxLen):
    Calls Tryz.prog 27 #[.pointer (some ⟨Y,0,none⟩),.string s] w fun e w'=> ∃ F',e= .returned (.int .i64 (a.dropErr (ky s)))∧Left F w Y (a.drop (ky s)) F' w':=by
  obtain ⟨hd,g,H,S,rfl⟩:=B
  refine (pDrop_any H s hs (by have:=S.b.ff_len H.ord;omega) (fun x hx=>by have h1:=(S.b.pk _ (qar hx)).2.1;have:=S.b.node_len h1;dsimp only at this;unfold maxLen;omega)).mono ?_
  rintro e w' ⟨r,g',he,H',hk,hT⟩
  have hi:getL (qcc hd g).P (ky s)=(getL g.PP (ky s)).map (·.2):=getL_pods g _
  refine ⟨F,?_,⟨⟨hd,g',H',S.drop H.ord hT,?_⟩,qg5,hk⟩⟩
  · rw [he]
    unfold Abs.dropErr
    rw [hi]
    rcases hT with ⟨h,rfl,_⟩| ⟨x,h,rfl,_⟩
    · rw [h];rfl
    · rw [h];rfl
  · unfold Abs.drop
    rw [hi]
    rcases hT with ⟨h,_,rfl⟩| ⟨x,h,_,rfl⟩
    · rw [h];rfl
    · rw [h]
      exact abs_unlay _
theorem qgk {a:Abs} (hs:qad a.P) {k:qn} (h: ∀ x,getL a.P k=some x→x.bound=true):a.confirm k=a:=by
  unfold Abs.confirm
  have:a.P.map (fun p=>(p.1,if p.1==k then { p.2 with bound:=true } else p.2))=a.P:=by
    conv=>rhs;rw [← List.map_id a.P]
    apply List.map_congr_left
    intro p hp
    by_cases e:p.1=k
    · have hb:=h p.2 (by rw [← e];exact qac hs.distinct hp)
      have e':(p.1==k)=true:=by simpa using e
      rw [e',if_pos rfl]
      show (p.1,({ p.2 with bound:=true }:qag))=p
      have:({ p.2 with bound:=true }:qag)=p.2:=by
        cases h2:p.2
        rw [h2] at hb
        dsimp only at hb ⊢
        rw [hb]
      rw [this]
    · have e':(p.1==k)=false:=by simpa using e
      rw [e',if_neg (by simp)]
      rfl
  rw [this]
theorem spec_confirm (B:BSt F w Y a) (s:ByteArray) (hs:s.size≤maxLen):
    Calls Tryz.prog 25 #[.pointer (some ⟨Y,0,none⟩),.string s] w fun e w'=> ∃ F',e= .returned (.int .i64 (a.confirmErr (ky s)))∧Left F w Y (a.confirm (ky s)) F' w':=by
  obtain ⟨hd,g,H,S,rfl⟩:=B
  refine (pConfirm_any H s hs).mono ?_
  rintro e w' ⟨r,g',he,H',hk,hT⟩
  have hi:getL (qcc hd g).P (ky s)=(getL g.PP (ky s)).map (·.2):=getL_pods g _
  have hsp:=(H.fineA S).sp
  refine ⟨F,?_,⟨⟨hd,g',H',?_,?_⟩,qg5,hk⟩⟩
  · rw [he]
    unfold Abs.confirmErr
    rw [hi]
    rcases hT with ⟨h,rfl,_⟩| ⟨x,h,⟨h2,rfl,_⟩| ⟨h2,rfl,_⟩⟩
    · rw [h];rfl
    · rw [h];show _=Ending.returned (.int .i64 (if x.2.bound then 7 else 0));rw [h2];rfl
    · rw [h];show _=Ending.returned (.int .i64 (if x.2.bound then 7 else 0));rw [h2];rfl
  · rcases hT with ⟨_,_,rfl⟩| ⟨x,h,⟨_,_,rfl⟩| ⟨_,_,rfl⟩⟩
    · exact S
    · exact S
    · exact S.confirm H.ord _
  · rcases hT with ⟨h,_,rfl⟩| ⟨x,h,⟨h2,_,rfl⟩| ⟨_,_,rfl⟩⟩
    · rw [qgk hsp]
      intro x hx
      rw [hi,h] at hx
      cases hx
    · rw [qgk hsp]
      intro y hy
      rw [hi,h] at hy
      cases hy
      exact h2
    · exact abs_confirm _
theorem spec_tick (B:BSt F w Y a) (n:Int):
    Calls Tryz.prog 29 #[.pointer (some ⟨Y,0,none⟩),.int .i64 n] w fun e w'=> ∃ F',e= .returned (.int .i64 (a.tickErr n))∧Left F w Y (a.tick n) F' w':=by
  obtain ⟨hd,g,H,S,rfl⟩:=B
  refine (pTick_any H n S.b.now.1 S.b.now.2 ⟨by have:=S.b.hold.1;omega,S.b.hold.2⟩ (fun p hp=> ?_) (by have:=S.b.ff_len H.ord;have:=S.b.small.pods;omega)).mono ?_
  · obtain ⟨h1,h2,h3,h4⟩:=S.b.pk p hp
    have:=S.b.node_len h2
    have:=S.b.now.2
    exact ⟨by unfold maxLen;omega,by unfold maxLen;omega,h3,by omega⟩
  · rintro e w' ⟨hd',g',he,H',hk,hT⟩
    exact ⟨F,he,⟨⟨hd',g',H',S.tick H.ord hT,abs_tick H.ord hT⟩,qg5,hk⟩⟩
structure RepAt (F:Nat→Prop) (w w':World) (r:Rep) (oo:Option Addr) (oc:Nat):Prop where
  rsn:w'.ownsRow 0 88 2 (.slice oo r.reasons.length oc) r.reasons.length (r.reasons.flatMap qfb)
  rnew: ∀ b,(Value.slice oo r.reasons.length oc).ownBlock=some b→w.heap.size≤b∧ ¬ F b
theorem RepAt.none (F:Nat→Prop) (w w':World) (e:Int):RepAt F w w' (repE e) none 0:=⟨World.ownsRow_nil _ _ _ _,fun b h=>by simp [Value.ownBlock] at h⟩
theorem spec_sched (B:BSt F w Y a) (p:PodD) (hok:p.ok w):
    Calls Tryz.prog 53 #[.pointer (some ⟨Y,0,none⟩),.agg p.cells] w fun e w'=> ∃ F' oo oc,e= .returned (repV (a.sched p.name p.val).1 oo oc)∧Left F w Y (a.sched p.name p.val).2 F' w'∧RepAt F' w w' (a.sched p.name p.val).1 oo oc:=by
  have B0:=B
  obtain ⟨hd,g,H,S,rfl⟩:=B
  have hse:(qcc hd g).schedErr p.name p.val=if p.err≠0 then p.err else g.admits (ky p.name):=by
    unfold Abs.schedErr
    rw [← err_val,← admits_abs]
  by_cases h0:p.err=0
  · rw [if_neg (by simp [h0])] at hse
    by_cases h1:g.admits (ky p.name)=0
    · rw [h1] at hse
      by_cases h2:(qay g.nodes g.pods p.val).err=0
      · have hs:(qcc hd g).sched p.name p.val=({ qay g.nodes g.pods p.val with fresh:=g.FF.length },({ qcc hd g with F:= [] }:Abs).lay (ky p.name) (p.val.lies (qay g.nodes g.pods p.val).node false hd.now)):=by
          unfold Abs.sched
          rw [if_neg (by simp [hse])]
          show (_,if (qay g.nodes g.pods p.val).err=0 then _ else _)=_
          rw [if_pos h2]
          rfl
        rw [hs]
        refine (sched_ok H S p hok h0 h1 h2).mono ?_
        rintro e w' ⟨oo,oc,F',G,q,he,T,e1,e2,e3⟩
        refine ⟨F',oo,oc,he,⟨⟨hd,_,T.mem,T.sound,?_⟩,T.less,T.kept⟩,T.rsn,T.rnew⟩
        refine (abs_lay (g:= { G with FF:= [] }) (x:=p.lies (qay g.nodes g.pods p.val).node false hd.now) _ _).trans ?_
        have:qcc hd { G with FF:= [] }= { qcc hd g with F:= [] }:=by
          unfold qcc Gh.nodes Gh.pods
          dsimp only
          rw [e1,e2,e3]
        rw [this]
        rfl
      · have hs:(qcc hd g).sched p.name p.val=({ qay g.nodes g.pods p.val with fresh:=g.FF.length },{ qcc hd g with F:= [] }):=by
          unfold Abs.sched
          rw [if_neg (by simp [hse])]
          show (_,if (qay g.nodes g.pods p.val).err=0 then _ else _)=_
          rw [if_neg h2]
          rfl
        rw [hs]
        refine (sched_fit H S p hok h0 h1 h2).mono ?_
        rintro e w' ⟨oo,oc,F',G,he,T,e1,e2,e3,e4⟩
        refine ⟨F',oo,oc,he,⟨⟨hd,_,T.mem,T.sound,?_⟩,T.less,T.kept⟩,T.rsn,T.rnew⟩
        unfold qcc Gh.nodes Gh.pods
        rw [e1,e2,e3,e4]
    · have hs:(qcc hd g).sched p.name p.val=(repE (g.admits (ky p.name)),qcc hd g):=by
        unfold Abs.sched
        rw [if_pos (by rw [hse];exact h1),hse]
        rfl
      rw [hs]
      refine (sched_adm H p hok h0 h1).mono ?_
      rintro e w' ⟨he,hb⟩
      exact ⟨F,none,0,he,Left.of_below B0 hb,RepAt.none _ _ _ _⟩
  · rw [if_pos h0] at hse
    have hs:(qcc hd g).sched p.name p.val=(repE p.err,qcc hd g):=by
      unfold Abs.sched
      rw [if_pos (by rw [hse];exact h0),hse]
      rfl
    rw [hs]
    refine (sched_bad p hok h0).mono ?_
    rintro e w' ⟨he,hb⟩
    exact ⟨F,none,0,he,Left.of_below B0 hb,RepAt.none _ _ _ _⟩
def useRowA (P:List (qn×qag)) (k:qn):List Value:= [.string (bs k),.int .i64 (qt P k).1,.int .i64 (qt P k).2.1,.int .i64 (qt P k).2.2,.int .i64 (qdf P k)]
def liesRowA (p:qn×qag):List Value:= [.string (bs p.1),.string (bs p.2.node),.bool p.2.bound,.int .i64 p.2.since]
structure StAt (w w':World) (a:Abs) (a1:Option Addr) (c1:Nat) (a2:Option Addr) (c2:Nat):Prop where
  us:w'.ownsRow 0 91 5 (.slice a1 a.N.length c1) a.N.length (a.N.flatMap fun p=>useRowA a.P p.1)
  ls:w'.ownsRow 0 94 4 (.slice a2 a.P.length c2) a.P.length (a.P.flatMap liesRowA)
  unew: ∀ b,(Value.slice a1 a.N.length c1).ownBlock=some b→w.heap.size≤b
  lnew: ∀ b,(Value.slice a2 a.P.length c2).ownBlock=some b→w.heap.size≤b
def stV (a:Abs) (a1:Option Addr) (c1:Nat) (a2:Option Addr) (c2:Nat):Value:= .agg #[.int .i64 a.now,.slice a1 a.N.length c1,.slice a2 a.P.length c2,.int .i64 a.W.length]
theorem spec_state (B:BSt F w Y a):
    Calls Tryz.prog 34 #[.pointer (some ⟨Y,0,none⟩)] w fun e w'=> ∃ a1 c1 a2 c2,e= .returned (stV a a1 c1 a2 c2)∧StAt w w' a a1 c1 a2 c2∧Below w.heap.size w w':=by
  obtain ⟨hd,g,H,S,rfl⟩:=B
  have hf:=H.fineA S
  refine (pState_any H S.b.small (by have:=S.b.nn;omega) (fun p hp=>by have:=S.b.nk p hp;unfold maxLen;omega) (fun p hp=>by have:=(S.b.pk p hp).1;unfold maxLen;omega) (fun p hp=>by have:=S.b.node_len (S.b.pk p hp).2.1;unfold maxLen;omega)).mono ?_
  rintro e w' ⟨a1,c1,a2,c2,he,h1,h2,h3,h4,hb⟩
  have n1:(qcc hd g).N.length=g.NN.length:=len_nodes g
  have n2:(qcc hd g).P.length=g.PP.length:=len_pods g
  have n3:(qcc hd g).W.length=g.WW.length:=by show (g.WW.map _).length=_;rw [List.length_map]
  have e1:(qcc hd g).N.flatMap (fun p=>useRowA (qcc hd g).P p.1)=g.NN.flatMap fun p=>useRow g p.1:=by
    show (g.NN.map _).flatMap _=_
    rw [List.flatMap_map]
    rfl
  have e2:(qcc hd g).P.flatMap liesRowA=g.PP.flatMap qfj:=by
    show (g.PP.map _).flatMap _=_
    rw [List.flatMap_map]
    rfl
  refine ⟨a1,c1,a2,c2,?_,⟨?_,?_,?_,?_⟩,hb⟩
  · rw [he]
    unfold stV
    rw [n1,n2,n3]
    rfl
  · rw [n1,e1];exact h1
  · rw [n2,e2];exact h2
  · rw [n1];exact h3
  · rw [n2];exact h4
end
end
end Go.Proofs.YtchddaafibjmgaaGreat
