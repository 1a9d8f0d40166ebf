import Derived.Test.YtchddaafibjmgaaGreatMD11
import Derived.BigQuiet
import Derived.Test.YtchddaafibjmgaaGreatMA1
import Derived.Deep.CutRange
import Derived.Deep.CutBlock
import Derived.Test.YtchddaafibjmgaaGreatMD3
set_option maxRecDepth 100000
set_option maxHeartbeats 20000000
namespace Go.Proofs.YtchddaafibjmgaaGreat
section
open Go.RowKit Go.Maps
theorem qc6 {α:Type} (f:α→List Value) (s:Nat) (hf: ∀ x,(f x).length=s): ∀ (xs:List α) (k j:Nat) (hk:k < xs.length),j < s→(xs.flatMap f)[k * s+j]? =(f xs[k])[j]?
 | x::xs,0,j,_,hj=>by
  rw [List.flatMap_cons,List.getElem?_append_left (by rw [hf];omega)]
  simp
 | x::xs,k+1,j,hk,hj=>by
  rw [List.flatMap_cons,List.getElem?_append_right (by rw [hf,Nat.add_mul];omega),hf,show (k+1) * s+j - s=k * s+j from by rw [Nat.add_mul];omega]
  simpa using qc6 f s hf xs k j (by simpa using hk) hj
theorem qfd {w:World} {base:Nat} {e:TypeId} {ao:Option Addr} {s m cap n:Nat} {xs:List Value} (h:w.ownsRow base e s (.slice ao m cap) n xs) (hn:0 < n):
  ∃ g,ao=some ⟨g,0,none⟩∧g < w.heap.size∧(∀ i,i < n * s→w.cell? ⟨g,i,none⟩=xs[i]?)∧(∀ i,w.frozen? ⟨g,i,none⟩=false):=by
 rcases h.2 with ⟨_,rfl⟩| ⟨g,cap',cur,hv,_,hgg,_,_,_,htk⟩
 ·omega
 ·simp only [Value.slice.injEq] at hv
  refine ⟨g,hv.1,qo hgg,fun i hi=> ?_,fun i=>qp hgg⟩
  rw [ql hgg,← htk,List.getElem?_take,if_pos hi]
  simp
theorem qhg (n:Int) (w:World):Calls Tryz.prog 15 #[.int .i64 n] w fun e w'=>e= .returned (.int .i64 n)∧w'=w:=by
 go_enter Tryz.func15,Tryz.ntmps15
 go_wp2
 go_ret
 exact ⟨rfl,rfl⟩
theorem reply_any (t:qg8) (w:World) (oo ro:Option Addr) (oc rc:Nat) (hn:t.reasons.length≤1000) (h1:w.ownsRow 0 88 2 (.slice oo t.reasons.length oc) t.reasons.length (t.rep.reasons.flatMap qfb)) (h2:w.ownsRow 0 165 2 (.slice ro t.reasons.length rc) t.reasons.length (t.reasons.flatMap qdr)):
  Calls Tryz.prog 55 #[.agg #[.int .i64 t.err,.string t.node,.int .i64 t.score,.slice oo t.reasons.length oc,.int .i64 t.fresh],.agg #[.int .i64 t.err,.string t.node,.int .i64 t.score,.slice ro t.reasons.length rc,.int .i64 t.fresh]] w fun e w'=>e= .returned (.bool true)∧Below w.heap.size w w':=by
 have HO:Hid (∀ k,k < t.reasons.length→ ∃ g1 g2,oo=some ⟨g1,0,none⟩∧ro=some ⟨g2,0,none⟩∧g1 < w.heap.size∧g2 < w.heap.size∧ ∃ (s:ByteArray) (n:Int),w.cell? ⟨g1,k * 2,none⟩=some (.string s)∧w.cell? ⟨g1,k * 2+1,none⟩=some (.int .i64 n)∧w.cell? ⟨g2,k * 2,none⟩=some (.string s)∧w.cell? ⟨g2,k * 2+1,none⟩=some (.int .i64 n)):=by
  intro k hk
  have hk':k < t.rep.reasons.length:=by show k < (t.reasons.map rsn).length;rw [List.length_map];exact hk
  have hr:t.rep.reasons[k]=rsn t.reasons[k]:=List.getElem_map ..
  obtain ⟨g1,e1,l1,c1,_⟩:=qfd h1 (by omega)
  obtain ⟨g2,e2,l2,c2,_⟩:=qfd h2 (by omega)
  have f0:=qc6 qfb 2 (fun _=>rfl) t.rep.reasons k 0 hk' (by omega)
  have f1:=qc6 qfb 2 (fun _=>rfl) t.rep.reasons k 1 hk' (by omega)
  have d0:=qc6 qdr 2 (fun _=>rfl) t.reasons k 0 hk (by omega)
  have d1:=qc6 qdr 2 (fun _=>rfl) t.reasons k 1 hk (by omega)
  rw [hr] at f0 f1
  refine ⟨g1,g2,e1,e2,l1,l2,t.reasons[k].1,t.reasons[k].2,?_,?_,?_,?_⟩
  ·rw [c1 _ (by omega)]
   refine f0.trans ?_
   show some (Value.string (bs (ky t.reasons[k].1)))=_
   rw [bs_ky]
  ·rw [c1 _ (by omega)];exact f1
  ·rw [c2 _ (by omega)];exact d0
  ·rw [c2 _ (by omega)];exact d1
 clear h1 h2
 have cN:=qhg t.err
 obtain ⟨w0,hw0⟩: ∃ W,W=(w.alloc (.cells #[.int .i64 t.err,.string t.node,.int .i64 t.score,.slice oo t.reasons.length oc,.int .i64 t.fresh] 97)).alloc (.cells #[.int .i64 t.err,.string t.node,.int .i64 t.score,.slice ro t.reasons.length rc,.int .i64 t.fresh] 138):=⟨_,rfl⟩
 have hb2:Below w.heap.size w w0:=by rw [hw0];exact qj (qi _ _) (qi _ _)
 go_enter Tryz.func55,Tryz.ntmps55
 go_upto_region 1 with fail
 go_quiet ((go_at_call 15;exact Calls.quiet_of_same (cN _)))
 go_wp2
 rw [← hw0]
 have l2:w.heap.size+1 < w0.heap.size:=by rw [hw0];simp
 have b2:w0.heap[w.heap.size]? =some (.cells #[.int .i64 t.err,.string t.node,.int .i64 t.score,.slice oo t.reasons.length oc,.int .i64 t.fresh] 97 (0,0)):=by
  rw [hw0,(qi _ _).block _ (by simp)]
  exact qm _ _
 have b3:w0.heap[w.heap.size+1]? =some (.cells #[.int .i64 t.err,.string t.node,.int .i64 t.score,.slice ro t.reasons.length rc,.int .i64 t.fresh] 138 (0,0)):=by
  rw [hw0]
  have:=qm (w.alloc (.cells #[.int .i64 t.err,.string t.node,.int .i64 t.score,.slice oo t.reasons.length oc,.int .i64 t.fresh] 97)) (.cells #[.int .i64 t.err,.string t.node,.int .i64 t.score,.slice ro t.reasons.length rc,.int .i64 t.fresh] 138)
  simpa using this
 have c3:w0.cell? ⟨w.heap.size,3,none⟩=some (.slice oo t.reasons.length oc):=by rw [ql b2];rfl
 have d3:w0.cell? ⟨w.heap.size+1,3,none⟩=some (.slice ro t.reasons.length rc):=by rw [ql b3];rfl
 clear b2 b3 hw0
 go_loopw [5] (fun i wr=> ∃ k n:Nat,k≤t.reasons.length∧i= .int .i64 k∧wr=w0.drewN n) (fun i _=>t.reasons.length - (intOf i).toNat)
 case atStart=>exact ⟨0,nq,Nat.zero_le _,rfl,rfl⟩
 case round=>
  obtain ⟨k,n,hk,rfl,rfl⟩:=hrel
  by_cases hlt:k < t.reasons.length
  ·obtain ⟨g1,g2,rfl,rfl,l1,l2,s,m,a0,a1,e0,e1⟩:=HO.out k hlt
   have x0:=(hb2.cell (p:=⟨g1,k * 2,none⟩) l1).trans a0
   have x1:=(hb2.cell (p:=⟨g1,k * 2+1,none⟩) l1).trans a1
   have y0:=(hb2.cell (p:=⟨g2,k * 2,none⟩) l2).trans e0
   have y1:=(hb2.cell (p:=⟨g2,k * 2+1,none⟩) l2).trans e1
   clear a0 a1 e0 e1
   go_wp2
   go_quiet (fail)
   rename_i nq2
   go_wp2
   go_roundw
   case rel=>exact ⟨k+1,_,by omega,by go_num,rfl⟩
   case measure=>simp [intOf];omega
  ·go_wp2
   go_ret
   exact ⟨rfl,below_drewN hb2 _⟩
end
section
open Go.RowKit
theorem own_prefix {w:World} {e:TypeId} {s g n m cap:Nat} {xs ys:List Value} (h:w.ownsRow 0 e s (.slice (some ⟨g,0,none⟩) (n+m) cap) (n+m) (xs++ys)) (hl:xs.length=n * s):w.ownsRow 0 e s (.slice (some ⟨g,0,none⟩) n cap) n xs:=by
 rcases h.2 with ⟨hv,_⟩| ⟨g',cap',cur,hv,hb,hg,hnc,hcm,hcs,htk⟩
 ·simp at hv
 ·simp only [Value.slice.injEq,Option.some.injEq,Addr.mk.injEq,and_true,true_and] at hv
  obtain ⟨rfl,rfl⟩:=hv
  refine ⟨hl,.inr ⟨g,cap,cur,rfl,hb,hg,by omega,hcm,hcs,?_⟩⟩
  have h1:(cur.toList.take ((n+m) * s)).take (n * s)=(xs++ys).take (n * s):=by rw [htk]
  rw [List.take_take,Nat.min_eq_left (Nat.mul_le_mul_right s (by omega)),← hl,List.take_left] at h1
  rw [← hl]
  exact h1
section
variable {P:Program} (w:World)
theorem run_append_mark (t ty e:TypeId) (i:TypeInfo) (z:Value) (size bytes:Nat) (ht:P.underlying t=some (.slice e)) (hi:P.info? e=some i) (hz:i.zero=some z)
  (hsize:i.size=size) (hby:i.bytes=bytes) (hzs:z.cells.size=size) (hsz:0 < size)
  (v:Value) (n:Nat) (xs:List Value) (hown:w.ownsRow 0 e size v n xs)
  (a:Addr) (m c:Nat) (news:List Value) (hl:news.length=m * size) (hnews: ∀ j u,news[j]? =some u→w.cell? (a.add j)=some u) (h1: ∀ u∈news,u.oneCell'=true)
  (h63:n+m≤maxLen) (hbytes:(n+m) * bytes≤140737488355328):
  ∃ v' w',(Builtin.append_ #[t,t] ty #[v,.slice (some a) m c]).run P w= .ok v' w'∧w'.ownsRow 0 e size v' (n+m) (xs++news)∧w'.ownsRow 0 e size v n xs∧w.grownBy w' v.ownBlock∧
   ((∃ g cap,v= .slice (some ⟨g,0,none⟩) n cap∧v'= .slice (some ⟨g,0,none⟩) (n+m) cap)∨((∀ k,v'.ownBlock=some k→w.heap.size≤k)∧Kept qq w w')):=by
 have weak: ∀ {b:Nat} {w:World} {v:Value} {n:Nat} {xs:List Value},w.ownsRow b e size v n xs→w.ownsRow 0 e size v n xs:=by
  intro b w v n xs h
  refine ⟨h.1,?_⟩
  rcases h.2 with hn| ⟨g,cap,cur,rfl,_,r⟩
  ·exact .inl hn
  ·exact .inr ⟨g,cap,cur,rfl,Nat.zero_le _,r⟩
 have fresh: ∀ {w':World} {v:Value} {n:Nat} {xs:List Value},w'.ownsRow w.heap.size e size v n xs→ ∀ k,v.ownBlock=some k→w.heap.size≤k:=fun h k hk=>(h.lt k hk).1
 rcases hown.2 with ⟨rfl,rfl⟩| ⟨g,cap,cur,rfl,hbg,hg,hnc,hcm,hcs,htake⟩
 ·have hx:xs= []:=List.eq_nil_of_length_eq_zero (by simpa using hown.1)
  subst hx
  obtain ⟨v',w',hr,r1,r2,_⟩:=run_append_own (P:=P) w w.heap.size t ty e i z size bytes ht hi hz hsize hby hzs hsz _ 0 [] (World.ownsRow_nil w _ _ _) a m c news hl hnews h1 h63 hbytes (Nat.le_refl _)
  exact ⟨v',w',hr,weak r1,World.ownsRow_nil _ _ _ _,r2,.inr ⟨fresh r1,⟨r2.os,r2.tape,r2.output,r2.size,fun k hk _=>r2.block k hk (by simp [Value.ownBlock])⟩⟩⟩
 ·by_cases hroom:n+m≤cap
  ·obtain ⟨w',hr,r1,r2⟩:=run_append_fits (P:=P) w 0 t ty e i size ht hi hsize g n cap xs hown a m c news hl hnews h1 hroom
   exact ⟨_,w',hr,r1,own_prefix r1 hown.1,r2,.inl ⟨g,cap,rfl,rfl⟩⟩
  ·have holds: ∀ j u,xs[j]? =some u→w.cell? ((⟨g,0,none⟩:Addr).add j)=some u:=hown.cells (g:=g) rfl
   obtain ⟨v',w',hr,r1,r2⟩:=run_append_arg_grows (P:=P) w t ty e i z size bytes ht hi hz hsize hby hzs hsz ⟨g,0,none⟩ n cap xs hown.1 holds a m c news hl hnews (by omega) h63 hbytes
   have K:Kept qq w w':=⟨r2.os,r2.tape,r2.output,r2.size,fun k hk _=>r2.block k hk (by simp)⟩
   exact ⟨v',w',hr,weak r1,K.ownsRow hown fun _ _=>id,⟨r2.os,r2.tape,r2.output,r2.size,fun k hk _=>r2.block k hk (by simp)⟩,.inr ⟨fresh r1,K⟩⟩
end
end
section
open Go.RowKit Go.Maps
theorem neq_rsn (s:ByteArray) (n:Int) (w:World):(binOp .neq 88 (.agg #[.string s,.int .i64 n]) (.agg #[.string s,.int .i64 n])).run Tryz.prog w= .ok (.bool false) w:=by
 have u9:=Tryz.underlying9
 have a9:=Tryz.isAgg9
 have z9:=Tryz.sizeOf9
 have u3:=Tryz.underlying3
 have a3:=Tryz.isAgg3
 have z3:=Tryz.sizeOf3
 have hS:Tryz.prog.underlying 88=some (.struct (Tryz.prog.fieldsOf 88)):=by kernel_rfl
 have hp:Tryz.prog.stoodInHeld 88=false:=by kernel_rfl
 rw [run_neq_struct,show (10000:Nat)=9999+1 from rfl,run_equalIn_agg w 9999 88 _ _ hS hp]
 simp only [Program.fieldsOf,Tryz.underlying88]
 go_simp
theorem neq_lies (s z:ByteArray) (b:Bool) (n:Int) (w:World):(binOp .neq 94 (.agg #[.string s,.string z,.bool b,.int .i64 n]) (.agg #[.string s,.string z,.bool b,.int .i64 n])).run Tryz.prog w= .ok (.bool false) w:=by
 have u9:=Tryz.underlying9
 have a9:=Tryz.isAgg9
 have z9:=Tryz.sizeOf9
 have u3:=Tryz.underlying3
 have a3:=Tryz.isAgg3
 have z3:=Tryz.sizeOf3
 have u4:=Tryz.underlying4
 have a4:=Tryz.isAgg4
 have z4:=Tryz.sizeOf4
 have hS:Tryz.prog.underlying 94=some (.struct (Tryz.prog.fieldsOf 94)):=by kernel_rfl
 have hp:Tryz.prog.stoodInHeld 94=false:=by kernel_rfl
 rw [run_neq_struct,show (10000:Nat)=9999+1 from rfl,run_equalIn_agg w 9999 94 _ _ hS hp]
 simp only [Program.fieldsOf,Tryz.underlying94]
 go_simp
theorem eq_three (a b c:Int) (w:World):(Op.equalIn 9999 67 (.agg #[.int .i64 a,.int .i64 b,.int .i64 c]) (.agg #[.int .i64 a,.int .i64 b,.int .i64 c])).run Tryz.prog w= .ok true w:=by
 have u3:=Tryz.underlying3
 have a3:=Tryz.isAgg3
 have z3:=Tryz.sizeOf3
 have hc:Tryz.prog.cellsOf 3=1:=by kernel_rfl
 obtain ⟨i,hi⟩: ∃ i,Tryz.prog.info? 3=some i:=by
  cases h:Tryz.prog.info? 3 with
  | none=>
   have:(Tryz.prog.info? 3).isSome=true:=by kernel_rfl
   rw [h] at this
   cases this
  | some i=>exact ⟨i,rfl⟩
 rw [show (9999:Nat)=9998+1 from rfl,run_equalIn_array (P:=Tryz.prog) w 9998 _ _ Tryz.underlying67 hi,hc]
 show (Op.eqItems 9998 3 1 _ _ [0,1,2]).run Tryz.prog w=_
 simp only [Op.eqItems]
 go_simp
theorem neq_use (s:ByteArray) (a b c n:Int) (w:World):(binOp .neq 91 (.agg #[.string s,.int .i64 a,.int .i64 b,.int .i64 c,.int .i64 n]) (.agg #[.string s,.int .i64 a,.int .i64 b,.int .i64 c,.int .i64 n])).run Tryz.prog w= .ok (.bool false) w:=by
 have u9:=Tryz.underlying9
 have a9:=Tryz.isAgg9
 have z9:=Tryz.sizeOf9
 have u3:=Tryz.underlying3
 have a3:=Tryz.isAgg3
 have z3:=Tryz.sizeOf3
 have u5:=Tryz.underlying67
 have a5:=Tryz.isAgg67
 have z5:=Tryz.sizeOf67
 have e5:=eq_three a b c
 have hS:Tryz.prog.underlying 91=some (.struct (Tryz.prog.fieldsOf 91)):=by kernel_rfl
 have hp:Tryz.prog.stoodInHeld 91=false:=by kernel_rfl
 rw [run_neq_struct,show (10000:Nat)=9999+1 from rfl,run_equalIn_agg w 9999 91 _ _ hS hp]
 simp only [Program.fieldsOf,Tryz.underlying91]
 go_simp
structure Bk where
 a:Option Addr
 n:Nat
 c:Nat
def Bk.val (x:Bk):Value:= .slice x.a x.n x.c
def markI (i:Nat):Int:= -1 - ((i / 4 * 4:Nat):Int)
def markR (i:Nat):List Value:= [.string ⟨#[]⟩,.int .i64 (markI i)]
def markU (i:Nat):List Value:= [.string ⟨#[]⟩,.int .i64 0,.int .i64 0,.int .i64 0,.int .i64 (markI i)]
def markL (i:Nat):List Value:= [.string ⟨#[]⟩,.string ⟨#[]⟩,.bool false,.int .i64 (markI i)]
def markP (i:Nat):List Value:= [.int .i64 0,.string ⟨#[]⟩,.int .i64 0,.slice none 0 0,.int .i64 (markI i)]
structure BkAt (w:World) (e le:TypeId) (s:Nat) (mark:Nat→List Value) (v:Value) (l:List Bk):Prop where
 row:w.ownsRow 0 le 1 v l.length (l.map Bk.val)
 full: ∀ (i:Nat) (h:i < l.length),l[i].n≤1000∧w.ownsRow 0 e s l[i].val l[i].n ((List.replicate l[i].n ()).flatMap fun _=>mark i)
 few:l.length≤4000000000000000
structure qf8 (w:World) (X:Nat) (v0 v1 v2 v3:Value) (l0 l1 l2 l3:List Bk):Prop where
 box:w.heap[X]? =some (.cells #[v0,v1,v2,v3] 37 (0,0))
 b0:BkAt w 88 86 2 markR v0 l0
 b1:BkAt w 91 89 5 markU v1 l1
 b2:BkAt w 94 92 4 markL v2 l2
 b3:BkAt w 97 95 5 markP v3 l3
theorem BkAt.at {w:World} {e le:TypeId} {s:Nat} {mark:Nat→List Value} {v:Value} {l:List Bk} (H:BkAt w e le s mark v l) (hm: ∀ i,(mark i).length=s) {i:Nat} (hi:i < l.length):
  ∃ g cap,v= .slice (some ⟨g,0,none⟩) l.length cap∧g < w.heap.size∧w.cell? ⟨g,i,none⟩=some (.slice l[i].a l[i].n l[i].c)∧l[i].n≤1000∧ ∀ k,k < l[i].n→ ∃ b,l[i].a=some ⟨b,0,none⟩∧b < w.heap.size∧ ∀ j,j < s→w.cell? ⟨b,k * s+j,none⟩=(mark i)[j]? :=by
 obtain ⟨ao,cap,rfl⟩:=qv H.row
 obtain ⟨g,rfl,lg,cc,_⟩:=qfd H.row (by omega)
 obtain ⟨h1,h2⟩:=H.full i hi
 refine ⟨g,cap,rfl,lg,?_,h1,fun k hk=> ?_⟩
 ·rw [cc i (by omega),List.getElem?_map,List.getElem?_eq_getElem hi]
  rfl
 ·unfold Bk.val at h2
  obtain ⟨b,e1,lb,cb,_⟩:=qfd h2 (by omega)
  refine ⟨b,e1,lb,fun j hj=> ?_⟩
  have hlt:k * s+j < l[i].n * s:=by
   have:(k+1) * s≤l[i].n * s:=Nat.mul_le_mul_right s (by omega)
   rw [Nat.add_mul] at this
   omega
  rw [cb _ hlt]
  exact qc6 (fun _:Unit=>mark i) s (fun _=>hm i) (List.replicate l[i].n ()) k j (by simpa using hk) hj
theorem whole_any (w:World) (X:Nat) (v0 v1 v2 v3:Value) (l0 l1 l2 l3:List Bk) (H:qf8 w X v0 v1 v2 v3 l0 l1 l2 l3):
  Calls Tryz.prog 11 #[.pointer (some ⟨X,0,none⟩)] w fun e w'=>e= .returned (.bool true)∧Below w.heap.size w w':=by
 have lX:=qo H.box
 have HH:Hid (qf8 w X v0 v1 v2 v3 l0 l1 l2 l3):=H
 have c0:w.cell? ⟨X,0,none⟩=some v0:=by rw [ql H.box];rfl
 have c1:w.cell? ⟨X,1,none⟩=some v1:=by rw [ql H.box];rfl
 have c2:w.cell? ⟨X,2,none⟩=some v2:=by rw [ql H.box];rfl
 have c3:w.cell? ⟨X,3,none⟩=some v3:=by rw [ql H.box];rfl
 obtain ⟨a0,k0,rfl⟩:=qv H.b0.row
 obtain ⟨a1,k1,rfl⟩:=qv H.b1.row
 obtain ⟨a2,k2,rfl⟩:=qv H.b2.row
 obtain ⟨a3,k3,rfl⟩:=qv H.b3.row
 have f0:=H.b0.few
 have f1:=H.b1.few
 have f2:=H.b2.few
 have f3:=H.b3.few
 have hq0:=neq_rsn
 have hq1:=eq_three
 have hq2:=neq_lies
 clear H
 go_enter Tryz.func11,Tryz.ntmps11
 go_upto_block 0 with fail
 go_cut [] from 3 to 181 (fun wx=>wx=w)
 case first=>
  go_wp2
  go_loopw [3] (fun i wr=> ∃ k:Nat,k≤l0.length∧i= .int .i64 k∧wr=w) (fun i _=>l0.length - (intOf i).toNat)
  case atStart=>exact ⟨0,Nat.zero_le _,rfl,rfl⟩
  case round=>
   obtain ⟨i,hi,rfl,rfl⟩:=hrel
   by_cases hlt:i < l0.length
   ·obtain ⟨g,cap,ev,lg,hs,hn,hk⟩:=HH.out.b0.at (fun _=>rfl) hlt
    simp only [Value.slice.injEq,true_and] at ev
    obtain ⟨rfl,rfl⟩:=ev
    generalize l0[i]=x at *
    obtain ⟨xa,xn,xc⟩:=x
    dsimp only at hs hn hk
    have HK:Hid _:=hk
    clear hk
    go_wp2
    go_loopw [4] (fun q wr2=> ∃ k:Nat,k≤xn∧q= .int .i64 k∧wr2=wr) (fun q _=>xn - (intOf q).toNat)
    case atStart=>exact ⟨0,Nat.zero_le _,rfl,rfl⟩
    case round=>
     obtain ⟨k,hkn,rfl,rfl⟩:=hrel
     by_cases hlt2:k < xn
     ·obtain ⟨b,rfl,lb,cb⟩:=HK.out k hlt2
      have y0:=cb 0 (by omega)
      have y1:=cb 1 (by omega)
      unfold markR at y0 y1
      simp only [Nat.add_zero,List.getElem?_cons_zero,List.getElem?_cons_succ] at y0 y1
      clear cb
      go_wp2
      go_roundw
      case rel=>exact ⟨k+1,by omega,by go_num,by first| rfl| trivial⟩
      case measure=>simp [intOf];omega
     ·go_wp2
      go_roundw
      case rel=>exact ⟨i+1,by omega,by go_num,by first| rfl| trivial⟩
      case measure=>simp [intOf];omega
   ·go_wp2
    go_meet
    first| rfl| trivial
 case rest=>
  rw [hcut]
  go_upto_block 4 with fail
  go_cut [] from 5 to 181 (fun wx=>wx=w)
  case first=>
   go_wp2
   go_loopw [5] (fun i wr=> ∃ k:Nat,k≤l1.length∧i= .int .i64 k∧wr=w) (fun i _=>l1.length - (intOf i).toNat)
   case atStart=>exact ⟨0,Nat.zero_le _,rfl,rfl⟩
   case round=>
    obtain ⟨i,hi,rfl,rfl⟩:=hrel
    by_cases hlt:i < l1.length
    ·obtain ⟨g,cap,ev,lg,hs,hn,hk⟩:=HH.out.b1.at (fun _=>rfl) hlt
     simp only [Value.slice.injEq,true_and] at ev
     obtain ⟨rfl,rfl⟩:=ev
     generalize l1[i]=x at *
     obtain ⟨xa,xn,xc⟩:=x
     dsimp only at hs hn hk
     have HK:Hid _:=hk
     clear hk
     go_wp2
     go_loopw [6] (fun q wr2=> ∃ k:Nat,k≤xn∧q= .int .i64 k∧wr2=wr) (fun q _=>xn - (intOf q).toNat)
     case atStart=>exact ⟨0,Nat.zero_le _,rfl,rfl⟩
     case round=>
      obtain ⟨k,hkn,rfl,rfl⟩:=hrel
      by_cases hlt2:k < xn
      ·obtain ⟨b,rfl,lb,cb⟩:=HK.out k hlt2
       have y0:=cb 0 (by omega)
       have y1:=cb 1 (by omega)
       have y2:=cb 2 (by omega)
       have y3:=cb 3 (by omega)
       have y4:=cb 4 (by omega)
       unfold markU at y0 y1 y2 y3 y4
       simp only [Nat.add_zero,List.getElem?_cons_zero,List.getElem?_cons_succ] at y0 y1 y2 y3 y4
       clear cb
       go_wp2
       go_roundw
       case rel=>exact ⟨k+1,by omega,by go_num,by first| rfl| trivial⟩
       case measure=>simp [intOf];omega
      ·go_wp2
       go_roundw
       case rel=>exact ⟨i+1,by omega,by go_num,by first| rfl| trivial⟩
       case measure=>simp [intOf];omega
    ·go_wp2
     go_meet
     first| rfl| trivial
  case rest=>
   rw [hcut]
   go_upto_block 8 with fail
   go_cut [] from 7 to 181 (fun wx=>wx=w)
   case first=>
    go_wp2
    go_loopw [7] (fun i wr=> ∃ k:Nat,k≤l2.length∧i= .int .i64 k∧wr=w) (fun i _=>l2.length - (intOf i).toNat)
    case atStart=>exact ⟨0,Nat.zero_le _,rfl,rfl⟩
    case round=>
     obtain ⟨i,hi,rfl,rfl⟩:=hrel
     by_cases hlt:i < l2.length
     ·obtain ⟨g,cap,ev,lg,hs,hn,hk⟩:=HH.out.b2.at (fun _=>rfl) hlt
      simp only [Value.slice.injEq,true_and] at ev
      obtain ⟨rfl,rfl⟩:=ev
      generalize l2[i]=x at *
      obtain ⟨xa,xn,xc⟩:=x
      dsimp only at hs hn hk
      have HK:Hid _:=hk
      clear hk
      go_wp2
      go_loopw [8] (fun q wr2=> ∃ k:Nat,k≤xn∧q= .int .i64 k∧wr2=wr) (fun q _=>xn - (intOf q).toNat)
      case atStart=>exact ⟨0,Nat.zero_le _,rfl,rfl⟩
      case round=>
       obtain ⟨k,hkn,rfl,rfl⟩:=hrel
       by_cases hlt2:k < xn
       ·obtain ⟨b,rfl,lb,cb⟩:=HK.out k hlt2
        have y0:=cb 0 (by omega)
        have y1:=cb 1 (by omega)
        have y2:=cb 2 (by omega)
        have y3:=cb 3 (by omega)
        unfold markL at y0 y1 y2 y3
        simp only [Nat.add_zero,List.getElem?_cons_zero,List.getElem?_cons_succ] at y0 y1 y2 y3
        clear cb
        go_wp2
        go_roundw
        case rel=>exact ⟨k+1,by omega,by go_num,by first| rfl| trivial⟩
        case measure=>simp [intOf];omega
       ·go_wp2
        go_roundw
        case rel=>exact ⟨i+1,by omega,by go_num,by first| rfl| trivial⟩
        case measure=>simp [intOf];omega
     ·go_wp2
      go_meet
      first| rfl| trivial
   case rest=>
    rw [hcut]
    go_wp2
    go_loopw [9] (fun i wr=> ∃ k:Nat,k≤l3.length∧i= .int .i64 k∧Below w.heap.size w wr) (fun i _=>l3.length - (intOf i).toNat)
    case atStart=>exact ⟨0,Nat.zero_le _,rfl,Below.refl _ _⟩
    case round=>
     obtain ⟨i,hi,rfl,hbr⟩:=hrel
     have c3r:=(hbr.cell (p:=⟨X,3,none⟩) lX).trans c3
     by_cases hlt:i < l3.length
     ·obtain ⟨g,cap,ev,lg,hs,hn,hk⟩:=HH.out.b3.at (fun _=>rfl) hlt
      simp only [Value.slice.injEq,true_and] at ev
      obtain ⟨rfl,rfl⟩:=ev
      generalize l3[i]=x at *
      obtain ⟨xa,xn,xc⟩:=x
      dsimp only at hs hn hk
      have HK:Hid _:=hk
      have hsr:=(hbr.cell (p:=⟨g,i,none⟩) lg).trans hs
      clear hk
      go_wp2
      go_loopw [10] (fun q wr2=> ∃ k:Nat,k≤xn∧q= .int .i64 k∧Below w.heap.size w wr2) (fun q _=>xn - (intOf q).toNat)
      case atStart=>exact ⟨0,Nat.zero_le _,rfl,hbr⟩
      case round=>
       clear c3r hsr
       obtain ⟨k,hkn,rfl,hb2⟩:=hrel
       have c3s:=(hb2.cell (p:=⟨X,3,none⟩) lX).trans c3
       have hss:=(hb2.cell (p:=⟨g,i,none⟩) lg).trans hs
       by_cases hlt2:k < xn
       ·obtain ⟨b,rfl,lb,cb⟩:=HK.out k hlt2
        have y0:=(hb2.cell (p:=⟨b,k * 5+0,none⟩) lb).trans (cb 0 (by omega))
        have y1:=(hb2.cell (p:=⟨b,k * 5+1,none⟩) lb).trans (cb 1 (by omega))
        have y2:=(hb2.cell (p:=⟨b,k * 5+2,none⟩) lb).trans (cb 2 (by omega))
        have y3:=(hb2.cell (p:=⟨b,k * 5+3,none⟩) lb).trans (cb 3 (by omega))
        have y4:=(hb2.cell (p:=⟨b,k * 5+4,none⟩) lb).trans (cb 4 (by omega))
        unfold markP at y0 y1 y2 y3 y4
        simp only [Nat.add_zero,List.getElem?_cons_zero,List.getElem?_cons_succ] at y0 y1 y2 y3 y4
        clear cb
        go_wp2
        go_roundw
        case rel=>exact ⟨k+1,by omega,by go_num,qj hb2 (qi _ _)⟩
        case measure=>simp [intOf];omega
       ·go_wp2
        go_roundw
        case rel=>exact ⟨i+1,by omega,by go_num,hb2⟩
        case measure=>simp [intOf];omega
     ·go_wp2
      go_ret
      exact ⟨rfl,hbr⟩
end
section
open Go.RowKit Go.Maps
def qdt (mark:List Value) (n:Nat):List Value:=(List.replicate n ()).flatMap fun _=>mark
theorem qgg (mark:List Value) (n:Nat):(qdt mark n).length=n * mark.length:=by
 unfold qdt
 rw [qhj (fun _:Unit=>mark) mark.length (fun _=>rfl),List.length_replicate]
theorem marks_add (mark:List Value) (n m:Nat):qdt mark (n+m)=qdt mark n++qdt mark m:=by
 unfold qdt
 rw [← List.replicate_append_replicate,List.flatMap_append]
theorem marks_get (mark:List Value) (n t:Nat) (hs:0 < mark.length) (ht:t < n * mark.length):(qdt mark n)[t]? =mark[t % mark.length]? :=by
 unfold qdt
 have hk:t / mark.length < n:=Nat.div_lt_of_lt_mul (by rw [Nat.mul_comm];exact ht)
 have:=qc6 (fun _:Unit=>mark) mark.length (fun _=>rfl) (List.replicate n ()) (t / mark.length) (t % mark.length) (by simpa using hk) (Nat.mod_lt _ hs)
 rw [show t / mark.length * mark.length+t % mark.length=t from by rw [Nat.mul_comm];exact Nat.div_add_mod t _] at this
 exact this
def sets (g:Nat):List Value→Nat→World→World
 | [],_,w=>w
 | u::us,o,w=>sets g us (o+1) (w.setCell ⟨g,o,none⟩ u)
theorem qg1 (g:Nat): ∀ (us:List Value) (o:Nat) (w:World),Kept (fun b=>b=g) w (sets g us o w)
 | [],_,w=>Kept.refl _ w
 | u::us,o,w=>((Kept.refl (fun b=>b=g) w).setCell (p:=⟨g,o,none⟩) (fun _=>rfl) u).trans (qg1 g us (o+1) _) fun _ _ h=>h
theorem sets_block (g:Nat) (e:TypeId): ∀ (us:List Value) (o:Nat) (w:World) (cur:Array Value),w.heap[g]? =some (.cells cur e (0,0))→
  ∃ cur',(sets g us o w).heap[g]? =some (.cells cur' e (0,0))∧cur'.size=cur.size∧ ∀ t,t < cur.size→cur'[t]? =if o≤t∧t < o+us.length then us[t - o]? else cur[t]?
 | [],o,w,cur,h=>⟨cur,h,rfl,fun t _=>by rw [if_neg (by simp only [List.length_nil];omega)]⟩
 | u::us,o,w,cur,h=>by
  obtain ⟨cur',h1,h2,h3⟩:=sets_block g e us (o+1) (w.setCell ⟨g,o,none⟩ u) _ (qs h (i:=o) u)
  refine ⟨cur',h1,by rw [h2,Array.size_setIfInBounds],fun t ht=> ?_⟩
  rw [h3 t (by rw [Array.size_setIfInBounds];exact ht)]
  by_cases e1:t=o
  ·subst e1
   rw [if_neg (by omega),if_pos (by simp),Nat.sub_self,Array.getElem?_setIfInBounds_self_of_lt ht]
   rfl
  ·rw [Array.getElem?_setIfInBounds_ne (fun h=>e1 h.symm)]
   by_cases h4:o+1≤t∧t < o+1+us.length
   ·rw [if_pos h4,if_pos (by simp;omega),show t - o=(t - (o+1))+1 from by omega]
    rfl
   ·rw [if_neg h4,if_neg (by simp;omega)]
structure qdn (w:World) (e:TypeId) (mark:List Value) (v:Value) (n k:Nat):Prop where
 at':(v= .slice none 0 0∧n=0)∨ ∃ g cap cur,v= .slice (some ⟨g,0,none⟩) n cap∧w.heap[g]? =some (.cells cur e (0,0))∧n≤cap∧cap≤maxLen∧cur.size=cap * mark.length∧ ∀ t,t < k * mark.length→cur[t]? =mark[t % mark.length]?
theorem qdn.start {w:World} {e:TypeId} {mark:List Value} {v:Value} {n:Nat} {xs:List Value} (h:w.ownsRow 0 e mark.length v n xs):qdn w e mark v n 0:=by
 rcases h.2 with ⟨hv,hn⟩| ⟨g,cap,cur,hv,_,hg,hnc,hcm,hcs,_⟩
 ·exact ⟨.inl ⟨hv,hn⟩⟩
 ·exact ⟨.inr ⟨g,cap,cur,hv,hg,hnc,hcm,hcs,fun t ht=>by omega⟩⟩
theorem qdn.done {w:World} {e:TypeId} {mark:List Value} {v:Value} {n:Nat} (hs:0 < mark.length) (h:qdn w e mark v n n):w.ownsRow 0 e mark.length v n (qdt mark n):=by
 refine ⟨qgg mark n,?_⟩
 rcases h.at' with ⟨hv,hn⟩| ⟨g,cap,cur,hv,hg,hnc,hcm,hcs,ht⟩
 ·exact .inl ⟨hv,hn⟩
 ·refine .inr ⟨g,cap,cur,hv,Nat.zero_le _,hg,hnc,hcm,hcs,?_⟩
  have hle:n * mark.length≤cur.size:=by rw [hcs];exact Nat.mul_le_mul_right _ hnc
  apply List.ext_getElem?
  intro t
  rw [List.getElem?_take]
  by_cases h1:t < n * mark.length
  ·rw [if_pos h1,marks_get mark n t hs h1,← ht t h1]
   simp
  ·rw [if_neg h1,List.getElem?_eq_none (by rw [qgg];omega)]
theorem qdn.kept {F:Nat→Prop} {w w':World} {e:TypeId} {mark:List Value} {v:Value} {n k:Nat} (h:qdn w e mark v n k) (hk:Kept F w w') (hF: ∀ b,v.ownBlock=some b→ ¬ F b):qdn w' e mark v n k:=by
 rcases h.at' with h| ⟨g,cap,cur,rfl,hg,r⟩
 ·exact ⟨.inl h⟩
 ·exact ⟨.inr ⟨g,cap,cur,rfl,by rw [hk.block g (qo hg) (hF g rfl)];exact hg,r⟩⟩
theorem qdn.set {w:World} {e:TypeId} {mark:List Value} {g n cap k:Nat} (h:qdn w e mark (.slice (some ⟨g,0,none⟩) n cap) n k) (hk:k < n):
  qdn (sets g mark (k * mark.length) w) e mark (.slice (some ⟨g,0,none⟩) n cap) n (k+1):=by
 rcases h.at' with ⟨h,_⟩| ⟨g',cap',cur,hv,hg,hnc,hcm,hcs,ht⟩
 ·simp at h
 ·simp only [Value.slice.injEq,Option.some.injEq,Addr.mk.injEq,and_true,true_and] at hv
  obtain ⟨rfl,rfl⟩:=hv
  obtain ⟨cur',h1,h2,h3⟩:=sets_block g e mark (k * mark.length) w cur hg
  refine ⟨.inr ⟨g,cap,cur',rfl,h1,hnc,hcm,h2.trans hcs,fun t htk=> ?_⟩⟩
  have hle:(k+1) * mark.length≤cur.size:=by rw [hcs];exact Nat.mul_le_mul_right _ (by omega)
  rw [h3 t (by omega)]
  rw [Nat.add_mul,Nat.one_mul] at htk
  by_cases h4:k * mark.length≤t
  ·rw [if_pos ⟨h4,htk⟩]
   congr 1
   obtain ⟨r,rfl⟩: ∃ r,t=r+mark.length * k:=⟨t - k * mark.length,by rw [Nat.mul_comm mark.length k];omega⟩
   rw [Nat.mul_comm mark.length k] at htk ⊢
   rw [← Nat.mul_comm mark.length k,Nat.add_mul_mod_self_left,Nat.mul_comm mark.length k,Nat.add_sub_cancel,Nat.mod_eq_of_lt (by omega)]
  ·rw [if_neg (by omega)]
   exact ht t (by omega)
theorem qdn.here {w:World} {e:TypeId} {mark:List Value} {ao:Option Addr} {n cap k:Nat} (h:qdn w e mark (.slice ao n cap) n k) (hn:0 < n): ∃ g,ao=some ⟨g,0,none⟩∧g < w.heap.size∧ ∀ i,w.frozen? ⟨g,i,none⟩=false:=by
 rcases h.at' with ⟨_,h⟩| ⟨g',cap',cur,hv,hg,_⟩
 ·omega
 ·simp only [Value.slice.injEq] at hv
  exact ⟨g',hv.1,qo hg,fun i=>qp hg⟩
theorem qdn.cell {w:World} {e:TypeId} {mark:List Value} {g n cap k:Nat} (h:qdn w e mark (.slice (some ⟨g,0,none⟩) n cap) n k) {i j:Nat} (hi:i < n) (hj:j < mark.length): ∃ u,w.cell? ⟨g,i * mark.length+j,none⟩=some u:=by
 rcases h.at' with ⟨h,_⟩| ⟨g',cap',cur,hv,hg,hnc,hcm,hcs,ht⟩
 ·simp at h
 ·simp only [Value.slice.injEq,Option.some.injEq,Addr.mk.injEq,and_true,true_and] at hv
  obtain ⟨rfl,rfl⟩:=hv
  rw [ql hg]
  have:(i+1) * mark.length≤cur.size:=by rw [hcs];exact Nat.mul_le_mul_right _ (by omega)
  rw [Nat.add_mul] at this
  exact ⟨_,Array.getElem?_eq_getElem (by omega)⟩
structure MG (e:TypeId) (mark:List Value) (w1:World) (o:Option Nat) (W:World) (l:List Bk):Prop where
 kept:Kept (fun b=>o=some b) w1 W
 rows: ∀ x∈l,W.ownsRow 0 e mark.length x.val x.n (qdt mark x.n)
 own: ∀ x∈l,∀ b,x.val.ownBlock=some b→o=some b∨w1.heap.size≤b
 olt: ∀ b,o=some b→b < w1.heap.size
theorem MG.alloc {e:TypeId} {mark:List Value} {w1:World} {o:Option Nat} {W:World} {l:List Bk} (M:MG e mark w1 o W l) (x:Obj):MG e mark w1 o (W.alloc x) l:=
 ⟨M.kept.alloc x,fun y hy=>(Kept.of_below (F:=qq) (qi _ _)).ownsRow (M.rows y hy) fun _ _=>id,M.own,M.olt⟩
theorem MG.drew {e:TypeId} {mark:List Value} {w1:World} {o:Option Nat} {W:World} {l:List Bk} (M:MG e mark w1 o W l):MG e mark w1 o W.drew l:=
 ⟨M.kept.drew,fun y hy=>((Kept.refl qq W).drew).ownsRow (M.rows y hy) fun _ _=>id,M.own,M.olt⟩
structure qcd (news:List Value) (w1:World) (W:World) (a:Nat):Prop where
 new:w1.heap.size≤a
 lt:a < W.heap.size
 at': ∀ j u,news[j]? =some u→W.cell? ((⟨a,0,none⟩:Addr).add j)=some u
theorem qg6 (b j:Nat):(⟨b,0,none⟩:Addr).add j=⟨b,j,none⟩:=by
 unfold Addr.add
 split
 ·rename_i h;rw [h]
 ·simp
theorem qcd.here {news:List Value} {w1 W:World} {a:Nat} {c:Array Value} {t:TypeId} (hs:w1.heap.size≤W.heap.size) (ha:a=W.heap.size) (hc:c.toList=news):qcd news w1 (W.alloc (.cells c t)) a:=by
 subst ha
 refine ⟨hs,by simp,fun j u hu=> ?_⟩
 rw [qg6,ql (qm W (.cells c t)),← hu,← hc]
 simp
theorem qcd.alloc {news:List Value} {w1 W:World} {a:Nat} (h:qcd news w1 W a) (o:Obj):qcd news w1 (W.alloc o) a:=by
 refine ⟨h.new,by have:=h.lt;simp;omega,fun j u hu=> ?_⟩
 rw [qg6,(qi W o).cell (p:=⟨a,j,none⟩) h.lt,← qg6]
 exact h.at' j u hu
theorem qcd.drew {news:List Value} {w1 W:World} {a:Nat} (h:qcd news w1 W a):qcd news w1 W.drew a:=⟨h.new,h.lt,h.at'⟩
theorem qcd.kept {news:List Value} {w1 W W':World} {a:Nat} {F:Nat→Prop} (h:qcd news w1 W a) (hk:Kept F W W') (hF: ∀ b,F b→b < w1.heap.size):qcd news w1 W' a:=by
 refine ⟨h.new,Nat.lt_of_lt_of_le h.lt hk.size,fun j u hu=> ?_⟩
 rw [qg6,hk.cell (p:=⟨a,j,none⟩) h.lt (fun hf=>by have h1:=hF _ hf;have h2:=h.new;exact absurd h1 (Nat.not_lt.2 h2)),← qg6]
 exact h.at' j u hu
theorem MG.append {P:Program} {e:TypeId} {mark:List Value} {w1:World} {o:Option Nat} {W:World} {l:List Bk} (M:MG e mark w1 o W l) (hs:0 < mark.length) (h1: ∀ u∈mark,u.oneCell'=true)
  (t ty:TypeId) (i:TypeInfo) (z:Value) (bytes:Nat) (ht:P.underlying t=some (.slice e)) (hi:P.info? e=some i) (hz:i.zero=some z) (hsize:i.size=mark.length) (hby:i.bytes=bytes) (hzs:z.cells.size=mark.length)
  {ao:Option Addr} {n cap m A c:Nat} (hx:(⟨ao,n,cap⟩:Bk)∈l) (hxo:(Value.slice ao n cap).ownBlock=o) (hmax: ∀ y∈l,y.n≤n+m) (S:qcd (qdt mark m) w1 W A) (hn:n+m≤2000) (hbb:bytes≤1000):
  ∃ ao' cap' W',(Builtin.append_ #[t,t] ty #[.slice ao n cap,.slice (some ⟨A,0,none⟩) m c]).run P W= .ok (.slice ao' (n+m) cap') W'∧MG e mark w1 o W' (l++ [⟨ao',n+m,cap'⟩])∧Kept (fun b=>o=some b) W W':=by
 have hb2:(n+m) * bytes≤2000 * 1000:=Nat.mul_le_mul hn hbb
 obtain ⟨v',w',hr,r1,r2,r3,r4⟩:=run_append_mark (P:=P) W t ty e i z mark.length bytes ht hi hz hsize hby hzs hs (.slice ao n cap) n (qdt mark n) (M.rows _ hx) ⟨A,0,none⟩ m c (qdt mark m) (qgg mark m) S.at'
  (fun u hu=>by unfold qdt at hu;obtain ⟨_,_,hu⟩:=List.mem_flatMap.1 hu;exact h1 u hu) (by unfold maxLen;omega) (by omega)
 obtain ⟨ao',cap',rfl⟩:=qv r1
 rw [← marks_add] at r1
 rw [hxo] at r3
 have K:Kept (fun b=>o=some b) W w':=(Kept.refl _ _).grown r3 fun k hk _=>hk
 refine ⟨ao',cap',w',hr,⟨M.kept.trans K fun _ _ h=>h,fun y hy=> ?_,fun y hy b hb=> ?_,M.olt⟩,K⟩
 ·rcases List.mem_append.1 hy with hy'| hy'
  ·clear hy
   have hy:=hy'
   clear hy'
   rcases r4 with ⟨g,cp,e1,e2⟩| ⟨_,K0⟩
   ·simp only [Value.slice.injEq] at e1 e2
    obtain ⟨rfl,_,rfl⟩:=e1
    obtain ⟨rfl,_,rfl⟩:=e2
    simp only [Value.ownBlock] at hxo
    by_cases hyo:y.val.ownBlock=o
    ·obtain ⟨ya,yn,yc⟩:=y
     have hle:=hmax _ hy
     have hry:=M.rows _ hy
     have hrx:=M.rows _ hx
     unfold Bk.val at hyo hry hrx ⊢
     dsimp only at hyo hry hle hrx ⊢
     rcases hry.2 with ⟨hv,hy0⟩| ⟨g2,cp2,cur2,hv,_,hg2,hn2,hc2,hs2,ht2⟩
     ·rw [hv,hy0]
      exact World.ownsRow_nil _ _ _ _
     ·simp only [Value.slice.injEq] at hv
      obtain ⟨rfl,_,rfl⟩:=hv
      have hgg:g2=g:=by
       rw [← hxo] at hyo
       simpa [Value.ownBlock] using hyo
      subst hgg
      rcases hrx.2 with ⟨hv,_⟩| ⟨g3,cp3,cur3,hv,_,hg3,hn3,hc3,hs3,_⟩
      ·simp at hv
      ·simp only [Value.slice.injEq,Option.some.injEq,Addr.mk.injEq,and_true,true_and] at hv
       obtain ⟨rfl,rfl⟩:=hv
       rw [hg2] at hg3
       simp only [Option.some.injEq,Obj.cells.injEq,and_true] at hg3
       subst hg3
       have hcc:=Nat.eq_of_mul_eq_mul_right hs (hs2.symm.trans hs3)
       subst hcc
       rw [show n+m=yn+(n+m - yn) from by omega,marks_add] at r1
       exact own_prefix r1 (qgg mark yn)
    ·exact K.ownsRow (M.rows y hy) fun b hb e=>hyo (hb.trans e.symm)
   ·exact K0.ownsRow (M.rows y hy) fun _ _=>id
  ·rw [List.mem_singleton] at hy'
   subst hy'
   exact r1
 ·rcases List.mem_append.1 hy with hy| hy
  ·exact M.own y hy b hb
  ·rw [List.mem_singleton] at hy
   subst hy
   rcases r4 with ⟨g,cp,e1,e2⟩| ⟨h4,_⟩
   ·unfold Bk.val at hb
    dsimp only at hb
    rw [e2] at hb
    rw [e1] at hxo
    simp only [Value.ownBlock] at hb hxo
    exact .inl (hxo.symm.trans hb)
   ·exact .inr (Nat.le_trans M.kept.size (h4 b hb))
theorem step_append_ex {P:Program} {ops:Array Oper} {o:Oper} {a:Act} {w:World} {K:Act→World→Prop} {Q:Exit→Act→World→Prop} {E:Prop}
  (hg:o.guard=none) (s x:Operand) (t:TypeId) (hop:o.op=Op.call { callee:=Callee.builtin Builtin.append,args:= #[s,x],argTypes:= #[t,t] }) (sv xv:Value) (hs:a.eval s=sv) (hx:a.eval x=xv)
  (hK: ∃ v' w',(Builtin.append_ #[t,t] o.type #[sv,xv]).run P w= .ok v' w'∧K (a.put o.dst v') w'):if Region.wanted o (yielded ops a.tmps)=true then Oper.wp P o a w K Q else E:=by
 obtain ⟨v',w',hrun,hK⟩:=hK
 have hw:Region.wanted o (yielded ops a.tmps)=true:=by simp [Region.wanted,hg]
 rw [if_pos hw]
 unfold Oper.wp
 simp [execOp,hop,resolve,invoke,builtin,hs,hx,hrun,Result.andThen]
 exact hK
theorem MG.then {P:Program} {e:TypeId} {mark:List Value} {w1:World} {o:Option Nat} {l:List Bk} {W:World} {K:Value→World→Prop} {t ty:TypeId} {ao:Option Addr} {n cap m A c:Nat} {bytes:Nat} (M:MG e mark w1 o W l) (hs:0 < mark.length) (h1: ∀ u∈mark,u.oneCell'=true)
  (ht:P.underlying t=some (.slice e)) {z:Value} (hI:(P.info? e).map (fun i=>(i.zero,i.size,i.bytes))=some (some z,mark.length,bytes)) (hzs:z.cells.size=mark.length)
  (hx:(⟨ao,n,cap⟩:Bk)∈l) (hxo:(Value.slice ao n cap).ownBlock=o) (hmax: ∀ y∈l,y.n≤n+m) (S:qcd (qdt mark m) w1 W A) (hn:n+m≤2000) (hbb:bytes≤1000)
  (hK: ∀ ao' cap' W',MG e mark w1 o W' (l++ [⟨ao',n+m,cap'⟩])→Kept (fun b=>o=some b) W W'→K (.slice ao' (n+m) cap') W'):
  ∃ v' W',(Builtin.append_ #[t,t] ty #[.slice ao n cap,.slice (some ⟨A,0,none⟩) m c]).run P W= .ok v' W'∧K v' W':=by
 obtain ⟨i,hi,hz,hsize,hby⟩:=info_parts hI
 obtain ⟨ao',cap',W',hr,hM,hk⟩:=M.append hs h1 t ty i z bytes ht hi hz hsize hby hzs hx hxo hmax S hn hbb (c:=c)
 exact ⟨_,W',hr,hK ao' cap' W' hM hk⟩
theorem list_then {P:Program} {W:World} {K:Value→World→Prop} {t ty e:TypeId} {z:Value} {bytes:Nat} {v:Value} {n m A c:Nat} {xs news:List Value} {w1:World} (hown:W.ownsRow 0 e 1 v n xs)
  (ht:P.underlying t=some (.slice e)) (hI:(P.info? e).map (fun i=>(i.zero,i.size,i.bytes))=some (some z,1,bytes)) (hzs:z.cells.size=1) (hl:news.length=m) (S:qcd news w1 W A) (h1: ∀ u∈news,u.oneCell'=true)
  (h63:n+m≤maxLen) (hbytes:(n+m) * bytes≤140737488355328)
  (hK: ∀ ao' cap' W',W'.ownsRow 0 e 1 (.slice ao' (n+m) cap') (n+m) (xs++news)→Kept (fun b=>v.ownBlock=some b) W W'→((Value.slice ao' (n+m) cap').ownBlock=v.ownBlock∨ ∀ k,(Value.slice ao' (n+m) cap').ownBlock=some k→W.heap.size≤k)→K (.slice ao' (n+m) cap') W'):
  ∃ v' W',(Builtin.append_ #[t,t] ty #[v,.slice (some ⟨A,0,none⟩) m c]).run P W= .ok v' W'∧K v' W':=by
 obtain ⟨i,hi,hz,hsize,hby⟩:=info_parts hI
 obtain ⟨v',w',hr,h2,h3,h4⟩:=qe8 (P:=P) W t ty e i z 1 bytes ht hi hz hsize hby hzs (by omega) v n xs hown ⟨A,0,none⟩ m c news (by omega) S.at' h1 h63 hbytes
 obtain ⟨ao',cap',rfl⟩:=qv h2
 exact ⟨_,w',hr,hK ao' cap' w' h2 ((Kept.refl _ _).grown h3 fun k hk _=>hk) h4⟩
end
end Go.Proofs.YtchddaafibjmgaaGreat
