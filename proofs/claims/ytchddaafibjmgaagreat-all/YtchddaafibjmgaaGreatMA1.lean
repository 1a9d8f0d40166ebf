import Derived.Test.YtchddaafibjmgaaGreatRows
import Derived.WalkKit
import Derived.WalkSpells
import Derived.WalkLawsBesides
import Derived.Deep.QuietTactic
import Derived.BigQuiet
import Derived.Laws.StructEq
import Derived.Deep.RegionHeld3
set_option maxRecDepth 100000
set_option maxHeartbeats 20000000
namespace Go.Proofs.YtchddaafibjmgaaGreat
section
open Go.RowKit
abbrev Lab:Type:=ByteArray×ByteArray
def labEq (x y:Lab):Bool:=x.1.toList==y.1.toList&&x.2.toList==y.2.toList
theorem labEq_comm (x y:Lab):labEq x y=labEq y x:=by
  unfold labEq
  rw [Bool.beq_comm (a:=x.1.toList),Bool.beq_comm (a:=x.2.toList)]
def qc9 (L:List Lab) (x:Lab):Bool:=L.any (labEq x)
def qae (l L:List Lab):Bool:=l.all (qc9 L)
def qab (L:List Lab) (k:Nat):Lab:=(L[k]?).getD (ByteArray.empty,ByteArray.empty)
def qbd (w:World) (a:Option Addr) (L:List Lab):Prop:=
  ∀ k,k < L.length→ ∃ b off,a=some ⟨b,off,none⟩∧w.cell? ⟨b,off+k * 2,none⟩=some (.string (qab L k).1)∧w.cell? ⟨b,off+k * 2+1,none⟩=some (.string (qab L k).2)
theorem qbd.nil (w:World) (a:Option Addr):qbd w a []:=fun k hk=>absurd hk (by simp)
theorem qbd.head {w:World} {a:Option Addr} {L:List Lab} (h:qbd w a L) (h0:0 < L.length):
    ∃ b off,a=some ⟨b,off,none⟩∧ ∀ k,k < L.length→w.cell? ⟨b,off+k * 2,none⟩=some (.string (qab L k).1)∧w.cell? ⟨b,off+k * 2+1,none⟩=some (.string (qab L k).2):=by
  obtain ⟨b,off,e,_⟩:=h 0 h0
  refine ⟨b,off,e,fun k hk=> ?_⟩
  obtain ⟨b',off',e',h1⟩:=h k hk
  rw [e] at e'
  simp only [Option.some.injEq,Addr.mk.injEq,and_true] at e'
  obtain ⟨rfl,rfl⟩:=e'
  exact h1
theorem qbd.below {w w':World} {a:Option Addr} {L:List Lab} (h:qbd w a L) (hb:Below w.heap.size w w'):qbd w' a L:=by
  intro k hk
  obtain ⟨b,off,e,h1,h2⟩:=h k hk
  have hl:=World.block_lt_of_cell? w _ h1
  refine ⟨b,off,e,?_,?_⟩
  · rw [← h1];exact hb.cell hl
  · rw [← h2];exact hb.cell hl
theorem qbd.low {w:World} {a:Option Addr} {L:List Lab} (h:qbd w a L) (h0:0 < L.length) (p:Addr) (e:a=some p):p.block < w.heap.size:=by
  obtain ⟨b,off,e',h1,_⟩:=h 0 h0
  rw [e] at e'
  simp only [Option.some.injEq] at e'
  subst e'
  exact World.block_lt_of_cell? w _ h1
theorem qi (w:World) (o:Obj):Below w.heap.size w (w.alloc o):=(Below.refl _ _).alloc (Nat.le_refl _) _
theorem qj {a b c:World} (h:Below a.heap.size a b) (k:Below b.heap.size b c):Below a.heap.size a c:=h.trans (k.mono h.size)
theorem labHas_take {L:List Lab} {x:Lab} {k:Nat} (hk:k < L.length):qc9 (L.take (k+1)) x=(qc9 (L.take k) x || labEq x (qab L k)):=by
  unfold qc9 qab
  rw [List.take_succ_eq_append_getElem hk,List.any_append,List.getElem?_eq_getElem hk]
  simp only [List.any_cons,List.any_nil,Bool.or_false,Option.getD_some]
theorem labFits_take {l L:List Lab} {k:Nat} (hk:k < l.length):qae (l.take (k+1)) L=(qae (l.take k) L&&qc9 L (qab l k)):=by
  unfold qae qab
  rw [List.take_succ_eq_append_getElem hk,List.all_append,List.getElem?_eq_getElem hk]
  simp only [List.all_cons,List.all_nil,Bool.and_true,Option.getD_some]
theorem labHas_of_at {L:List Lab} {x:Lab} {k:Nat} (hk:k < L.length) (h:labEq x (qab L k)=true):qc9 L x=true:=by
  unfold qc9
  rw [List.any_eq_true]
  refine ⟨qab L k,?_,h⟩
  unfold qab
  rw [List.getElem?_eq_getElem hk]
  exact List.getElem_mem hk
theorem labFits_of_at {l L:List Lab} {k:Nat} (hk:k < l.length) (h:qc9 L (qab l k)=false):qae l L=false:=by
  unfold qae
  rw [List.all_eq_false]
  refine ⟨qab l k,?_,by simp [h]⟩
  unfold qab
  rw [List.getElem?_eq_getElem hk]
  exact List.getElem_mem hk
theorem eql_api (a b c d:ByteArray) (w:World):(binOp .eql 85 (.agg #[.string a,.string b]) (.agg #[.string c,.string d])).run Tryz.prog w= .ok (.bool (labEq (a,b) (c,d))) w:=by
  have u9:=Tryz.underlying9
  have a9:=Tryz.isAgg9
  have z9:=Tryz.sizeOf9
  have hS:Tryz.prog.underlying 85=some (.struct (Tryz.prog.fieldsOf 85)):=by kernel_rfl
  have hp:Tryz.prog.stoodInHeld 85=false:=by kernel_rfl
  rw [run_eql_struct,show (10000:Nat)=9999+1 from rfl,run_equalIn_agg w 9999 85 _ _ hS hp]
  simp only [Program.fieldsOf,Tryz.underlying85]
  go_simp
  unfold labEq
  by_cases h1:a.toList=c.toList<;>by_cases h2:b.toList=d.toList<;>simp [h1,h2]
theorem eql_ref (a b c d:ByteArray) (w:World):(binOp .eql 39 (.agg #[.string a,.string b]) (.agg #[.string c,.string d])).run Tryz.prog w= .ok (.bool (labEq (a,b) (c,d))) w:=by
  have u9:=Tryz.underlying9
  have a9:=Tryz.isAgg9
  have z9:=Tryz.sizeOf9
  have hS:Tryz.prog.underlying 39=some (.struct (Tryz.prog.fieldsOf 39)):=by kernel_rfl
  have hp:Tryz.prog.stoodInHeld 39=false:=by kernel_rfl
  rw [run_eql_struct,show (10000:Nat)=9999+1 from rfl,run_equalIn_agg w 9999 39 _ _ hS hp]
  simp only [Program.fieldsOf,Tryz.underlying39]
  go_simp
  unfold labEq
  by_cases h1:a.toList=c.toList<;>by_cases h2:b.toList=d.toList<;>simp [h1,h2]
end
section
open Go.RowKit
structure Kept (F:Nat→Prop) (w w':World):Prop where
  os:w'.os=w.os
  tape:w'.tape=w.tape
  output:w'.output=w.output
  size:w.heap.size≤w'.heap.size
  block: ∀ k,k < w.heap.size→ ¬ F k→w'.heap[k]? =w.heap[k]?
def grow (P:Nat→Prop) (w w':World):Nat→Prop:=fun k=>P k∨(w.heap.size≤k∧k < w'.heap.size)
def qq:Nat→Prop:=fun _=>False
theorem Kept.refl (F:Nat→Prop) (w:World):Kept F w w:=⟨rfl,rfl,rfl,Nat.le_refl _,fun _ _ _=>rfl⟩
theorem Kept.trans {F G:Nat→Prop} {a b c:World} (h:Kept F a b) (k:Kept G b c) (hG: ∀ i,i < a.heap.size→G i→F i):Kept F a c:=
  ⟨k.os.trans h.os,k.tape.trans h.tape,k.output.trans h.output,Nat.le_trans h.size k.size,fun i hi hF=>(k.block i (Nat.lt_of_lt_of_le hi h.size) (fun g=>hF (hG i hi g))).trans (h.block i hi hF)⟩
theorem Kept.mono {F G:Nat→Prop} {a b:World} (h:Kept F a b) (hG: ∀ i,i < a.heap.size→F i→G i):Kept G a b:=
  ⟨h.os,h.tape,h.output,h.size,fun i hi hg=>h.block i hi (fun f=>hg (hG i hi f))⟩
theorem Kept.of_below {F:Nat→Prop} {a b:World} (h:Below a.heap.size a b):Kept F a b:=⟨h.os,h.tape,h.output,h.size,fun i hi _=>h.block i hi⟩
theorem Kept.below {F:Nat→Prop} {B:Nat} {a b:World} (h:Kept F a b) (hB:B≤a.heap.size) (hF: ∀ i,i < B→ ¬ F i):Below B a b:=
  ⟨h.os,h.tape,h.output,h.size,fun i hi=>h.block i (Nat.lt_of_lt_of_le hi hB) (hF i hi)⟩
theorem Kept.alloc {F:Nat→Prop} {a w:World} (h:Kept F a w) (o:Obj):Kept F a (w.alloc o):=
  ⟨h.os,h.tape,h.output,Nat.le_trans h.size (by simp),fun k hk hF=>(Below.heap_alloc _ _ _ (Nat.lt_of_lt_of_le hk h.size)).trans (h.block k hk hF)⟩
theorem Kept.drew {F:Nat→Prop} {a w:World} (h:Kept F a w):Kept F a w.drew:=⟨h.os,h.tape,h.output,h.size,h.block⟩
theorem Kept.drewN {F:Nat→Prop} {a w:World} (h:Kept F a w) (n:Nat):Kept F a (w.drewN n):=⟨h.os,h.tape,h.output,h.size,h.block⟩
theorem Kept.setCell {F:Nat→Prop} {a w:World} (h:Kept F a w) {p:Addr} (hp:p.block < a.heap.size→F p.block) (u:Value):Kept F a (w.setCell p u):=
  ⟨h.os,h.tape,h.output,by simpa [World.setCell] using h.size,fun k hk hF=>(Below.heap_setCell w p u k (fun e=>hF (by rw [e];exact hp (by rw [← e];exact hk)))).trans (h.block k hk hF)⟩
theorem Kept.grown {F:Nat→Prop} {a w w':World} {row:Option Nat} (h:Kept F a w) (hg:w.grownBy w' row) (hr: ∀ k,row=some k→k < a.heap.size→F k):Kept F a w':=
  ⟨hg.os.trans h.os,hg.tape.trans h.tape,hg.output.trans h.output,Nat.le_trans h.size hg.size,
    fun k hk hF=>(hg.block k (Nat.lt_of_lt_of_le hk h.size) (fun e=>hF (hr k e.symm hk))).trans (h.block k hk hF)⟩
theorem Kept.cell {F:Nat→Prop} {w w':World} (h:Kept F w w') {p:Addr} (hp:p.block < w.heap.size) (hF: ¬ F p.block):w'.cell? p=w.cell? p:=World.cell?_of_block (w:=w) (h.block p.block hp hF)
theorem Kept.frozen {F:Nat→Prop} {w w':World} (h:Kept F w w') {p:Addr} (hp:p.block < w.heap.size) (hF: ¬ F p.block):w'.frozen? p=w.frozen? p:=World.frozen?_of_block (w:=w) (h.block p.block hp hF)
theorem Kept.ownsRow {F:Nat→Prop} {w w':World} (h:Kept F w w') {base:Nat} {e:TypeId} {size:Nat} {v:Value} {n:Nat} {xs:List Value} (ho:w.ownsRow base e size v n xs) (hF: ∀ k,v.ownBlock=some k→ ¬ F k):
    w'.ownsRow base e size v n xs:=by
  refine ⟨ho.1,?_⟩
  rcases ho.2 with hn| ⟨g,cap,cur,rfl,hb,hgg,rest⟩
  · exact .inl hn
  · refine .inr ⟨g,cap,cur,rfl,hb,?_,rest⟩
    rw [h.block g (Array.getElem?_eq_some_iff.1 hgg).1 (hF g rfl)]
    exact hgg
theorem qo {w:World} {b:Nat} {o:Obj} (h:w.heap[b]? =some o):b < w.heap.size:=(Array.getElem?_eq_some_iff.1 h).1
theorem ql {w:World} {b i:Nat} {c:Array Value} {e:TypeId} {fr:Nat×Nat} (h:w.heap[b]? =some (.cells c e fr)):w.cell? ⟨b,i,none⟩=c[i]? :=by
  simp [World.cell?,h]
theorem qp {w:World} {b i:Nat} {c:Array Value} {e:TypeId} (h:w.heap[b]? =some (.cells c e (0,0))):w.frozen? ⟨b,i,none⟩=false:=by
  simp [World.frozen?,h]
theorem qs {w:World} {b i:Nat} {c:Array Value} {e:TypeId} {fr:Nat×Nat} (h:w.heap[b]? =some (.cells c e fr)) (v:Value):
    (w.setCell ⟨b,i,none⟩ v).heap[b]? =some (.cells (c.setIfInBounds i v) e fr):=by
  simp [World.setCell,Array.getElem?_modify,h]
theorem qbt {w:World} {b b' i:Nat} (hne:b≠b') (v:Value):(w.setCell ⟨b',i,none⟩ v).heap[b]? =w.heap[b]? :=
  Below.heap_setCell _ _ _ _ (by simpa using hne)
theorem qm (w:World) (o:Obj):(w.alloc o).heap[w.heap.size]? =some o:=by
  show (w.heap.push o)[w.heap.size]? =_
  simp
theorem cell_one_new' (w:World) (x:Value) (t:TypeId) (n:Nat) (hn:n=w.heap.size): ∀ j u,[x][j]? =some u→(w.alloc (.cells #[x] t)).cell? ((⟨n,0,none⟩:Addr).add j)=some u:=by
  subst hn;exact cell_one_new w x t
theorem qej (w:World) (a:Addr) (v:Value):(w.setCell a v).heap.size=w.heap.size:=by simp [World.setCell]
section
variable {P:Program} (w:World)
theorem qv {w:World} {base:Nat} {e:TypeId} {size:Nat} {v:Value} {n:Nat} {xs:List Value} (h:w.ownsRow base e size v n xs): ∃ ao cap,v= .slice ao n cap:=by
  rcases h.2 with ⟨rfl,rfl⟩| ⟨g,cap,cur,rfl,_⟩
  · exact ⟨none,0,rfl⟩
  · exact ⟨_,_,rfl⟩
theorem own_at {w:World} {base:Nat} {e:TypeId} {ao:Option Addr} {m cap n:Nat} {xs:List Value} (h:w.ownsRow base e 1 (.slice ao m cap) n xs) (hn:0 < n):
    ∃ g,ao=some ⟨g,0,none⟩∧g < w.heap.size∧ ∀ k,k < n→w.cell? ⟨g,k,none⟩=xs[k]? :=by
  rcases h.2 with ⟨_,rfl⟩| ⟨g,cap',cur,hv,_,hgg,_,_,_,htk⟩
  · omega
  · simp only [Value.slice.injEq] at hv
    refine ⟨g,hv.1,qo hgg,fun k hk=> ?_⟩
    rw [ql hgg,← htk,List.getElem?_take,if_pos (by omega)]
    simp
theorem qe8 (t ty e:TypeId) (i:TypeInfo) (z:Value) (size bytes:Nat) (ht:P.underlying t=some (.slice e)) (hi:P.info? e=some i) (hz:i.zero=some z)
    (hsize:i.size=size) (hby:i.bytes=bytes) (hzs:z.cells.size=size) (hsz:0 < size)
    (v:Value) (n:Nat) (xs:List Value) (hown:w.ownsRow 0 e size v n xs)
    (a:Addr) (m c:Nat) (news:List Value) (hl:news.length=m * size) (hnews: ∀ j u,news[j]? =some u→w.cell? (a.add j)=some u) (h1: ∀ u∈news,u.oneCell'=true)
    (h63:n+m≤maxLen) (hbytes:(n+m) * bytes≤140737488355328):
    ∃ v' w',(Builtin.append_ #[t,t] ty #[v,.slice (some a) m c]).run P w= .ok v' w'∧w'.ownsRow 0 e size v' (n+m) (xs++news)∧w.grownBy w' v.ownBlock∧
      (v'.ownBlock=v.ownBlock∨ ∀ k,v'.ownBlock=some k→w.heap.size≤k):=by
  have weak: ∀ {b:Nat} {w:World} {v:Value} {n:Nat} {xs:List Value},w.ownsRow b e size v n xs→w.ownsRow 0 e size v n xs:=by
    intro b w v n xs h
    refine ⟨h.1,?_⟩
    rcases h.2 with hn| ⟨g,cap,cur,rfl,_,r⟩
    · exact .inl hn
    · exact .inr ⟨g,cap,cur,rfl,Nat.zero_le _,r⟩
  have fresh: ∀ {w':World} {v:Value} {n:Nat} {xs:List Value},w'.ownsRow w.heap.size e size v n xs→ ∀ k,v.ownBlock=some k→w.heap.size≤k:=fun h k hk=>(h.lt k hk).1
  rcases hown.2 with ⟨rfl,rfl⟩| ⟨g,cap,cur,rfl,hbg,hg,hnc,hcm,hcs,htake⟩
  · have hx:xs= []:=List.eq_nil_of_length_eq_zero (by simpa using hown.1)
    subst hx
    obtain ⟨v',w',hr,r1,r2,_⟩:=run_append_own (P:=P) w w.heap.size t ty e i z size bytes ht hi hz hsize hby hzs hsz _ 0 [] (World.ownsRow_nil w _ _ _) a m c news hl hnews h1 h63 hbytes (Nat.le_refl _)
    exact ⟨v',w',hr,weak r1,r2,.inr (fresh r1)⟩
  · by_cases hroom:n+m≤cap
    · obtain ⟨w',hr,r1,r2⟩:=run_append_fits (P:=P) w 0 t ty e i size ht hi hsize g n cap xs hown a m c news hl hnews h1 hroom
      exact ⟨_,w',hr,r1,r2,.inl rfl⟩
    · have holds: ∀ j u,xs[j]? =some u→w.cell? ((⟨g,0,none⟩:Addr).add j)=some u:=hown.cells (g:=g) rfl
      obtain ⟨v',w',hr,r1,r2⟩:=run_append_arg_grows (P:=P) w t ty e i z size bytes ht hi hz hsize hby hzs hsz ⟨g,0,none⟩ n cap xs hown.1 holds a m c news hl hnews (by omega) h63 hbytes
      exact ⟨v',w',hr,weak r1,⟨r2.os,r2.tape,r2.output,r2.size,fun k hk _=>r2.block k hk (by simp)⟩,.inr (fresh r1)⟩
theorem qy {ops:Array Oper} {rest:List Oper} {o:Oper} {a:Act} {Q:Exit→Act→World→Prop} (hgd:o.guard=none) (s x:Operand) (t:TypeId)
    (ho:o.op= .call { callee:= .builtin .append,args:= #[s,x],argTypes:= #[t,t] })
    (e:TypeId) (i:TypeInfo) (z:Value) (size bytes:Nat) (ht:P.underlying t=some (.slice e)) (hi:P.info? e=some i) (hz:i.zero=some z)
    (hsize:i.size=size) (hby:i.bytes=bytes) (hzs:z.cells.size=size) (hsz:0 < size)
    (v:Value) (n:Nat) (xs:List Value) (hs:a.eval s=v) (hown:w.ownsRow 0 e size v n xs)
    (ad:Addr) (m c:Nat) (news:List Value) (hx:a.eval x= .slice (some ad) m c) (hl:news.length=m * size) (hnews: ∀ j u,news[j]? =some u→w.cell? (ad.add j)=some u) (h1: ∀ u∈news,u.oneCell'=true)
    (h63:n+m≤maxLen) (hbytes:(n+m) * bytes≤140737488355328)
    (h: ∀ ao cap' w',w'.ownsRow 0 e size (.slice ao (n+m) cap') (n+m) (xs++news)→w.grownBy w' v.ownBlock→
      ((Value.slice ao (n+m) cap').ownBlock=v.ownBlock∨ ∀ k,(Value.slice ao (n+m) cap').ownBlock=some k→w.heap.size≤k)→wpList P ops Q rest (a.put o.dst (.slice ao (n+m) cap')) w'):wpList P ops Q (o::rest) a w:=by
  refine wpList_plain hgd fun K hK'=> ?_
  obtain ⟨v',w',hr,h2,h3,h4⟩:=qe8 (P:=P) w t o.type e i z size bytes ht hi hz hsize hby hzs hsz v n xs hown ad m c news hl hnews h1 h63 hbytes
  unfold Oper.wp
  simp [execOp,ho,resolve,invoke,builtin,hs,hx,hr,Result.andThen]
  obtain ⟨ao,cap',rfl⟩:=qv h2
  exact hK' _ _ (h ao cap' w' h2 h3 h4)
theorem qfw {ops:Array Oper} {rest:List Oper} {o:Oper} {a:Act} {Q:Exit→Act→World→Prop}
    (hg:o.guard=none) (l c:Operand) (t:TypeId) (hop:o.op=Op.makeSlice t l c)
    (e:TypeId) (i:TypeInfo) (z:Value) (size:Nat) (h1:P.underlying t=some (.slice e)) (h2:P.info? e=some i) (h3:i.zero=some z) (h4:i.size=size)
    (kl kc:IntKind) (L C:Int) (n:Nat) (hl:a.eval l= .int kl L) (hc:a.eval c= .int kc C) (hL:L=(n:Int)) (hC:C=(n:Int)) (b2:i.bytes * n≤281474976710656) (b3:n≤maxLen)
    (hK: ∀ w',w'.heap[w.heap.size]? =some (.cells (madeCells z.cells (n * size)) e (0,0))→Below w.heap.size w w'→wpList P ops Q rest (a.put o.dst (.slice (some ⟨w.heap.size,0,none⟩) n n)) w'):
    wpList P ops Q (o::rest) a w:=by
  refine wpList_make_full w hg l c t hop w.heap.size e i z size h1 h2 h3 h4 kl kc L C n hl hc hL hC b2 b3 (Nat.le_refl _) fun w' r1 r2=>hK w' ?_ ⟨r2.os,r2.tape,r2.output,r2.size,fun k hk=>r2.block k hk (by simp)⟩
  rcases r1.2 with ⟨hv,_⟩| ⟨g,cap,cur,hv,_,hgg,_,_,hcs,htk⟩
  · simp at hv
  · simp only [Value.slice.injEq,Option.some.injEq,Addr.mk.injEq,and_true] at hv
    obtain ⟨rfl,_,rfl⟩:=hv
    rw [hgg]
    congr 2
    rw [List.take_of_length_le (by simp [hcs])] at htk
    exact Array.ext' htk
end
end
section
open Go.RowKit
def qav (L:List Lab):List Value:=L.flatMap fun x=> [.string x.1,.string x.2]
theorem qbi (L:List Lab):(qav L).length=2 * L.length:=by
  unfold qav
  induction L with
  | nil=>rfl
  | cons x L ih=>simp only [List.flatMap_cons,List.length_append,List.length_cons,List.length_nil,ih];omega
theorem qcp (L:List Lab) (k:Nat) (h:k < L.length):(qav L)[k * 2]? =some (.string (qab L k).1)∧(qav L)[k * 2+1]? =some (.string (qab L k).2):=by
  unfold qav qab
  induction L generalizing k with
  | nil=>simp at h
  | cons x L ih=>
    cases k with
    | zero=>simp
    | succ k=>
      have:=ih k (by simpa using h)
      rw [show (k+1) * 2=k * 2+2 from by omega]
      simpa using this
theorem labCells_set (L:List Lab) (k:Nat) (x:Lab):qav (L.set k x)=((qav L).set (k * 2) (.string x.1)).set (k * 2+1) (.string x.2):=by
  unfold qav
  induction L generalizing k with
  | nil=>simp
  | cons y L ih=>
    cases k with
    | zero=>simp
    | succ k=>
      rw [show (k+1) * 2=k * 2+2 from by omega]
      simpa using ih k
theorem made_labs (n:Nat):madeCells #[.string ByteArray.empty,.string ByteArray.empty] (n * 2)=(qav (List.replicate n (ByteArray.empty,ByteArray.empty))).toArray:=by
  have e1:qav (List.replicate n (ByteArray.empty,ByteArray.empty))=List.replicate (n * 2) (.string ByteArray.empty):=by
    induction n with
    | zero=>rfl
    | succ n ih=>
      rw [show (n+1) * 2=n * 2+1+1 from by omega,List.replicate_succ,List.replicate_succ,List.replicate_succ,← ih]
      rfl
  rw [e1]
  apply Array.ext
  · simp [size_madeCells]
  · intro i h1 h2
    have:i % 2=0∨i % 2=1:=by omega
    rcases this with h| h<;>simp [madeCells,h]
theorem Tryz.infoLab:(Tryz.prog.info? 85).map (fun i=>(i.zero,i.size,i.bytes))=some (some (.agg #[.string ⟨#[]⟩,.string ⟨#[]⟩]),2,32):=by kernel_rfl
end
section
open Go.RowKit
def qdo (c:Int):Bool:=(decide (97≤c)&&decide (c≤122)) || (decide (48≤c)&&decide (c≤57)) || (c==45)
theorem ret_bool {a b:Bool} (h:a=b):Ending.returned (.bool a)= .returned (.bool b):=by rw [h]
theorem isNameByte_any (c:Int) (w:World):Calls Tryz.prog 81 #[.int .u8 c] w fun e w'=>e= .returned (.bool (qdo c))∧w'=w:=by
  by_cases h1:97≤c
  · by_cases h2:c≤122
    · have hb:qdo c=true:=by simp [qdo,h1,h2]
      rw [hb]
      go_enter Tryz.func81,Tryz.ntmps81
      go_wp2
      go_ret
      exact ⟨rfl,rfl⟩
    · have h3:48≤c:=by omega
      have h4: ¬ c≤57:=by omega
      have h5:(c==45)=false:=beq_eq_false_iff_ne.2 (by omega)
      have hb:qdo c=false:=by simp [qdo,h2,h4,h5]
      rw [hb]
      go_enter Tryz.func81,Tryz.ntmps81
      go_wp2
      go_ret
      exact ⟨rfl,rfl⟩
  · by_cases h3:48≤c
    · by_cases h4:c≤57
      · have hb:qdo c=true:=by simp [qdo,h3,h4]
        rw [hb]
        go_enter Tryz.func81,Tryz.ntmps81
        go_wp2
        go_ret
        exact ⟨rfl,rfl⟩
      · have h5:(c==45)=false:=beq_eq_false_iff_ne.2 (by omega)
        have hb:qdo c=false:=by simp [qdo,h1,h4,h5]
        rw [hb]
        go_enter Tryz.func81,Tryz.ntmps81
        go_wp2
        go_ret
        exact ⟨rfl,rfl⟩
    · have hb:qdo c=(c==45):=by simp [qdo,h1,h3]
      rw [hb]
      go_enter Tryz.func81,Tryz.ntmps81
      go_wp2
      go_ret
      exact ⟨rfl,rfl⟩
def qf4 (l:List UInt8):Bool:=l.all fun c=>qdo (c.toNat:Int)
def qdl (s:ByteArray):Bool:=decide (1≤s.size)&&decide (s.size≤20)&&qf4 s.data.toList
theorem bytes_snoc (s:ByteArray) (k:Nat) (h:k < s.size):qf4 (s.data.toList.take (k+1))=(qf4 (s.data.toList.take k)&&qdo (s[k].toNat:Int)):=by
  unfold qf4
  rw [List.take_succ_eq_append_getElem (by simpa using h),List.all_append]
  simp only [List.all_cons,List.all_nil,Bool.and_true]
  rfl
theorem bytes_bad (s:ByteArray) (k:Nat) (h:k < s.size) (hb:qdo (s[k].toNat:Int)=false):qf4 s.data.toList=false:=by
  unfold qf4
  rw [List.all_eq_false]
  refine ⟨s[k],?_,by simp [hb]⟩
  show s.data[k]'_∈s.data.toList
  exact Array.getElem_mem_toList _
theorem isName_any (s:ByteArray) (w:World) (hs:s.size≤9223372036854775807):Calls Tryz.prog 66 #[.string s] w fun e w'=>e= .returned (.bool (qdl s))∧w'=w:=by
  by_cases h1:1≤s.size
  · by_cases h2:s.size≤20
    · go_enter Tryz.func66,Tryz.ntmps66
      go_wp2
      go_loop [14] (fun i=> ∃ k:Nat,k≤s.size∧i= .int .i64 k∧qf4 (s.data.toList.take k)=true) (fun i=>s.size - (intOf i).toNat)
      case atStart=>exact ⟨0,Nat.zero_le _,rfl,rfl⟩
      case round=>
        obtain ⟨k,hk,rfl,hno⟩:=hrel
        have Hno:Hid (qf4 (s.data.toList.take k)=true):=hno
        clear hno
        by_cases hlt:k < s.size
        · have Hs:Hid (qf4 (s.data.toList.take (k+1))=(qf4 (s.data.toList.take k)&&qdo (s[k].toNat:Int))):=bytes_snoc s k hlt
          cases hE:qdo (s[k].toNat:Int)
          · have HE:Hid (qdo (s[k].toNat:Int)=false):=hE
            clear hE
            go_wp2_with (go_at_call 81;refine (isNameByte_any _ _).mono ?_;rintro e w' ⟨rfl,rfl⟩;rw [HE.out])
            go_ret
            exact ⟨by unfold qdl;rw [bytes_bad s k hlt HE.out,Bool.and_false];rfl,rfl⟩
          · have HE:Hid (qdo (s[k].toNat:Int)=true):=hE
            clear hE
            go_wp2_with (go_at_call 81;refine (isNameByte_any _ _).mono ?_;rintro e w' ⟨rfl,rfl⟩;rw [HE.out])
            go_round
            case rel=>exact ⟨k+1,by omega,by go_num,by rw [Hs.out,Hno.out,HE.out];rfl⟩
            case measure=>simp [intOf];omega
        · go_wp2
          go_ret
          exact ⟨by have h0:=Hno.out;rw [List.take_of_length_le (by simp;omega)] at h0;simp [qdl,h1,h2,h0],rfl⟩
    · go_enter Tryz.func66,Tryz.ntmps66
      go_wp2
      go_ret
      exact ⟨by simp [qdl,h2],rfl⟩
  · go_enter Tryz.func66,Tryz.ntmps66
    go_wp2
    go_ret
    exact ⟨by simp [qdl];omega,rfl⟩
theorem name_any (s:ByteArray) (w:World) (hs:s.size≤9223372036854775807):Calls Tryz.prog 70 #[.string s] w fun e w'=>e= .returned (.bool (qdl s))∧w'=w:=by
  go_enter Tryz.func70,Tryz.ntmps70
  go_wp2
  go_loop [3] (fun i=> ∃ k:Nat,k≤s.size∧i= .int .i64 k∧qf4 (s.data.toList.take k)=true) (fun i=>s.size - (intOf i).toNat)
  case atStart=>exact ⟨0,Nat.zero_le _,rfl,rfl⟩
  case round=>
    obtain ⟨k,hk,rfl,hno⟩:=hrel
    have Hno:Hid (qf4 (s.data.toList.take k)=true):=hno
    clear hno
    by_cases hlt:k < s.size
    · have Hs:Hid (qf4 (s.data.toList.take (k+1))=(qf4 (s.data.toList.take k)&&qdo (s[k].toNat:Int))):=bytes_snoc s k hlt
      by_cases g0:(s[k].toNat:Int)=45
      · have HE:Hid (qdo (s[k].toNat:Int)=true):=by show qdo _=true;rw [g0];rfl
        have g0':((s[k].toNat:Int) != 45)=false:=by simp [g0]
        clear g0
        go_wp2
        go_round
        case rel=>exact ⟨k+1,by omega,by go_num,by rw [Hs.out,Hno.out,HE.out];rfl⟩
        case measure=>simp [intOf];omega
      · have g0':((s[k].toNat:Int) != 45)=true:=by simp [g0]
        by_cases g1:97≤(s[k].toNat:Int)
        · by_cases g2:(s[k].toNat:Int)≤122
          · have HE:Hid (qdo (s[k].toNat:Int)=true):=by show qdo _=true;simp [qdo,g1,g2]
            clear g0
            go_wp2
            go_round
            case rel=>exact ⟨k+1,by omega,by go_num,by rw [Hs.out,Hno.out,HE.out];rfl⟩
            case measure=>simp [intOf];omega
          · have HE:Hid (qdo (s[k].toNat:Int)=false):=by show qdo _=false;simp [qdo,g2,g0];omega
            clear g0
            go_wp2
            go_ret
            exact ⟨by unfold qdl;rw [bytes_bad s k hlt HE.out,Bool.and_false];rfl,rfl⟩
        · by_cases g3:48≤(s[k].toNat:Int)
          · by_cases g4:(s[k].toNat:Int)≤57
            · have HE:Hid (qdo (s[k].toNat:Int)=true):=by show qdo _=true;simp [qdo,g3,g4]
              clear g0
              go_wp2
              go_round
              case rel=>exact ⟨k+1,by omega,by go_num,by rw [Hs.out,Hno.out,HE.out];rfl⟩
              case measure=>simp [intOf];omega
            · have HE:Hid (qdo (s[k].toNat:Int)=false):=by show qdo _=false;simp [qdo,g1,g4,g0]
              clear g0
              go_wp2
              go_ret
              exact ⟨by unfold qdl;rw [bytes_bad s k hlt HE.out,Bool.and_false];rfl,rfl⟩
          · have HE:Hid (qdo (s[k].toNat:Int)=false):=by show qdo _=false;simp [qdo,g1,g3,g0]
            clear g0
            go_wp2
            go_ret
            exact ⟨by unfold qdl;rw [bytes_bad s k hlt HE.out,Bool.and_false];rfl,rfl⟩
    · have h0:=Hno.out
      rw [List.take_of_length_le (by simp;omega)] at h0
      have H0:Hid (qf4 s.data.toList=true):=h0
      clear h0
      by_cases h1:1≤s.size
      · go_wp2
        go_ret
        exact ⟨by rw [show qdl s=decide ((s.size:Int)≤20) from by unfold qdl;rw [H0.out,Bool.and_true,decide_eq_true h1,Bool.true_and];exact decide_eq_decide.2 (by omega)];rfl,rfl⟩
      · go_wp2
        go_ret
        exact ⟨by simp [qdl,H0.out];omega,rfl⟩
def amtB (n:Int):Bool:=decide (0≤n)&&decide (n≤1099511627776)
def qef (a b c:Int):Bool:=amtB a&&amtB b&&amtB c
theorem areAmounts_any (a b c:Int) (w:World):Calls Tryz.prog 67 #[.agg #[.int .i64 a,.int .i64 b,.int .i64 c]] w fun e w'=>e= .returned (.bool (qef a b c))∧Below w.heap.size w w':=by
  have i0: ∀ w,(Instr.index 67 (.agg #[.int .i64 a,.int .i64 b,.int .i64 c]) (.int .i64 0)).run Tryz.prog w= .ok (.int .i64 a) w:=fun _=>by kernel_rfl
  have i1: ∀ w,(Instr.index 67 (.agg #[.int .i64 a,.int .i64 b,.int .i64 c]) (.int .i64 1)).run Tryz.prog w= .ok (.int .i64 b) w:=fun _=>by kernel_rfl
  have i2: ∀ w,(Instr.index 67 (.agg #[.int .i64 a,.int .i64 b,.int .i64 c]) (.int .i64 2)).run Tryz.prog w= .ok (.int .i64 c) w:=fun _=>by kernel_rfl
  go_enter Tryz.func67,Tryz.ntmps67
  go_wp2
  go_loop [6] (fun i=> ∃ k:Nat,k≤3∧i= .int .i64 k∧(0 < k→amtB a=true)∧(1 < k→amtB b=true)∧(2 < k→amtB c=true)) (fun i=>3 - (intOf i).toNat)
  case atStart=>exact ⟨0,by omega,rfl,fun h=>absurd h (by omega),fun h=>absurd h (by omega),fun h=>absurd h (by omega)⟩
  case round=>
    obtain ⟨k,hk,rfl,q1,q2,q3⟩:=hrel
    have hk':k=0∨k=1∨k=2∨k=3:=by omega
    clear hk
    rcases hk' with rfl| rfl| rfl| rfl
    · clear q1 q2 q3
      by_cases g1:0≤a
      · by_cases g2:a≤1099511627776
        · have HE:Hid (amtB a=true):=by show amtB _=true;simp [amtB,g1,g2]
          go_wp2
          go_round
          case rel=>exact ⟨1,by omega,rfl,fun _=>HE.out,fun h=>absurd h (by omega),fun h=>absurd h (by omega)⟩
          case measure=>simp [intOf]
        · have HE:Hid (amtB a=false):=by show amtB _=false;simp [amtB,g2]
          go_wp2
          go_ret
          exact ⟨by unfold qef;rw [HE.out];simp,qi _ _⟩
      · have HE:Hid (amtB a=false):=by show amtB _=false;simp [amtB,g1]
        go_wp2
        go_ret
        exact ⟨by unfold qef;rw [HE.out];simp,qi _ _⟩
    · have H1:Hid (amtB a=true):=q1 (by omega)
      clear q1 q2 q3
      by_cases g1:0≤b
      · by_cases g2:b≤1099511627776
        · have HE:Hid (amtB b=true):=by show amtB _=true;simp [amtB,g1,g2]
          go_wp2
          go_round
          case rel=>exact ⟨2,by omega,rfl,fun _=>H1.out,fun _=>HE.out,fun h=>absurd h (by omega)⟩
          case measure=>simp [intOf]
        · have HE:Hid (amtB b=false):=by show amtB _=false;simp [amtB,g2]
          go_wp2
          go_ret
          exact ⟨by unfold qef;rw [HE.out];simp,qi _ _⟩
      · have HE:Hid (amtB b=false):=by show amtB _=false;simp [amtB,g1]
        go_wp2
        go_ret
        exact ⟨by unfold qef;rw [HE.out];simp,qi _ _⟩
    · have H1:Hid (amtB a=true):=q1 (by omega)
      have H2:Hid (amtB b=true):=q2 (by omega)
      clear q1 q2 q3
      by_cases g1:0≤c
      · by_cases g2:c≤1099511627776
        · have HE:Hid (amtB c=true):=by show amtB _=true;simp [amtB,g1,g2]
          go_wp2
          go_round
          case rel=>exact ⟨3,by omega,rfl,fun _=>H1.out,fun _=>H2.out,fun _=>HE.out⟩
          case measure=>simp [intOf]
        · have HE:Hid (amtB c=false):=by show amtB _=false;simp [amtB,g2]
          go_wp2
          go_ret
          exact ⟨by unfold qef;rw [HE.out];simp,qi _ _⟩
      · have HE:Hid (amtB c=false):=by show amtB _=false;simp [amtB,g1]
        go_wp2
        go_ret
        exact ⟨by unfold qef;rw [HE.out];simp,qi _ _⟩
    · have HE:Hid (qef a b c=true):=by show qef a b c=true;simp [qef,q1,q2,q3]
      clear q1 q2 q3
      go_wp2
      go_ret
      exact ⟨by rw [HE.out];rfl,qi _ _⟩
theorem amounts_any (a b c:Int) (w:World):Calls Tryz.prog 71 #[.agg #[.int .i64 a,.int .i64 b,.int .i64 c]] w fun e w'=>e= .returned (.bool (qef a b c))∧Below w.heap.size w w':=by
  go_enter Tryz.func71,Tryz.ntmps71
  go_wp2
  go_loop [3] (fun i=> ∃ k:Nat,k≤3∧i= .int .i64 k∧(0 < k→amtB a=true)∧(1 < k→amtB b=true)∧(2 < k→amtB c=true)) (fun i=>3 - (intOf i).toNat)
  case atStart=>exact ⟨0,by omega,rfl,fun h=>absurd h (by omega),fun h=>absurd h (by omega),fun h=>absurd h (by omega)⟩
  case round=>
    obtain ⟨k,hk,rfl,q1,q2,q3⟩:=hrel
    have hk':k=0∨k=1∨k=2∨k=3:=by omega
    clear hk
    rcases hk' with rfl| rfl| rfl| rfl
    · clear q1 q2 q3
      by_cases g1:0≤a
      · by_cases g2:a≤1099511627776
        · have HE:Hid (amtB a=true):=by show amtB _=true;simp [amtB,g1,g2]
          go_wp2
          go_round
          case rel=>exact ⟨1,by omega,rfl,fun _=>HE.out,fun h=>absurd h (by omega),fun h=>absurd h (by omega)⟩
          case measure=>simp [intOf]
        · have HE:Hid (amtB a=false):=by show amtB _=false;simp [amtB,g2]
          go_wp2
          go_ret
          exact ⟨by unfold qef;rw [HE.out];simp,qi _ _⟩
      · have HE:Hid (amtB a=false):=by show amtB _=false;simp [amtB,g1]
        go_wp2
        go_ret
        exact ⟨by unfold qef;rw [HE.out];simp,qi _ _⟩
    · have H1:Hid (amtB a=true):=q1 (by omega)
      clear q1 q2 q3
      by_cases g1:0≤b
      · by_cases g2:b≤1099511627776
        · have HE:Hid (amtB b=true):=by show amtB _=true;simp [amtB,g1,g2]
          go_wp2
          go_round
          case rel=>exact ⟨2,by omega,rfl,fun _=>H1.out,fun _=>HE.out,fun h=>absurd h (by omega)⟩
          case measure=>simp [intOf]
        · have HE:Hid (amtB b=false):=by show amtB _=false;simp [amtB,g2]
          go_wp2
          go_ret
          exact ⟨by unfold qef;rw [HE.out];simp,qi _ _⟩
      · have HE:Hid (amtB b=false):=by show amtB _=false;simp [amtB,g1]
        go_wp2
        go_ret
        exact ⟨by unfold qef;rw [HE.out];simp,qi _ _⟩
    · have H1:Hid (amtB a=true):=q1 (by omega)
      have H2:Hid (amtB b=true):=q2 (by omega)
      clear q1 q2 q3
      by_cases g1:0≤c
      · by_cases g2:c≤1099511627776
        · have HE:Hid (amtB c=true):=by show amtB _=true;simp [amtB,g1,g2]
          go_wp2
          go_round
          case rel=>exact ⟨3,by omega,rfl,fun _=>H1.out,fun _=>H2.out,fun _=>HE.out⟩
          case measure=>simp [intOf]
        · have HE:Hid (amtB c=false):=by show amtB _=false;simp [amtB,g2]
          go_wp2
          go_ret
          exact ⟨by unfold qef;rw [HE.out];simp,qi _ _⟩
      · have HE:Hid (amtB c=false):=by show amtB _=false;simp [amtB,g1]
        go_wp2
        go_ret
        exact ⟨by unfold qef;rw [HE.out];simp,qi _ _⟩
    · have HE:Hid (qef a b c=true):=by show qef a b c=true;simp [qef,q1,q2,q3]
      clear q1 q2 q3
      go_wp2
      go_ret
      exact ⟨by rw [HE.out];rfl,qi _ _⟩
end
section
open Go.RowKit
def keyIn (L:List Lab) (key:ByteArray):Bool:=L.any fun x=>x.1.toList==key.toList
def itemB (L:List Lab) (k:Nat):Bool:=qdl (qab L k).1&&qdl (qab L k).2&& !keyIn (L.take k) (qab L k).1
def qf2 (L:List Lab) (k:Nat):Bool:=(List.range k).all (itemB L)
def qbz (L:List Lab):Bool:=decide (L.length≤8)&&qf2 L L.length
def LabsOk (L:List Lab):Prop:= ∀ x∈L,x.1.size≤9223372036854775807∧x.2.size≤9223372036854775807
theorem LabsOk.at {L:List Lab} (h:LabsOk L) {k:Nat} (hk:k < L.length):(qab L k).1.size≤9223372036854775807∧(qab L k).2.size≤9223372036854775807:=by
  have:qab L k∈L:=by
    unfold qab
    rw [List.getElem?_eq_getElem hk]
    exact List.getElem_mem hk
  exact h _ this
theorem listTo_succ (L:List Lab) (k:Nat):qf2 L (k+1)=(qf2 L k&&itemB L k):=by
  unfold qf2
  rw [List.range_succ,List.all_append]
  simp
theorem qg4 (L:List Lab) (k n:Nat) (hk:k < n) (h:itemB L k=false):qf2 L n=false:=by
  unfold qf2
  rw [List.all_eq_false]
  exact ⟨k,by simpa using hk,by simp [h]⟩
theorem keyIn_take {L:List Lab} {key:ByteArray} {k:Nat} (hk:k < L.length):keyIn (L.take (k+1)) key=(keyIn (L.take k) key || ((qab L k).1.toList==key.toList)):=by
  unfold keyIn qab
  rw [List.take_succ_eq_append_getElem hk,List.any_append,List.getElem?_eq_getElem hk]
  simp only [List.any_cons,List.any_nil,Bool.or_false,Option.getD_some]
theorem keyIn_at {L:List Lab} {key:ByteArray} {k:Nat} (hk:k < L.length) (h:((qab L k).1.toList==key.toList)=true):keyIn L key=true:=by
  unfold keyIn
  rw [List.any_eq_true]
  refine ⟨qab L k,?_,h⟩
  unfold qab
  rw [List.getElem?_eq_getElem hk]
  exact List.getElem_mem hk
theorem qbd.take {w:World} {a:Option Addr} {L:List Lab} (h:qbd w a L) (n:Nat):qbd w a (L.take n):=by
  intro k hk
  have hk':k < L.length:=by simp at hk;omega
  have hl:qab (L.take n) k=qab L k:=by
    unfold qab
    rw [List.getElem?_take,if_pos (by simp at hk;omega)]
  rw [hl]
  exact h k hk'
theorem hasKey_any (L:List Lab) (key:ByteArray) (a:Option Addr) (cap:Nat) (w:World) (hl:L.length≤4398046511104) (h:qbd w a L):
    Calls Tryz.prog 94 #[.slice a L.length cap,.string key] w fun e w'=>e= .returned (.bool (keyIn L key))∧Below w.heap.size w w':=by
  go_enter Tryz.func94,Tryz.ntmps94
  go_wp2
  go_loopw [9] (fun i wr=> ∃ k:Nat,k≤L.length∧i= .int .i64 k∧Below w.heap.size w wr∧keyIn (L.take k) key=false) (fun i _=>L.length - (intOf i).toNat)
  case atStart=>exact ⟨0,Nat.zero_le _,rfl,Below.refl _ _,rfl⟩
  case round=>
    obtain ⟨k,hk,rfl,hbw,hno⟩:=hrel
    have Hno:Hid (keyIn (L.take k) key=false):=hno
    clear hno
    by_cases hlt:k < L.length
    · have hr:=h.below hbw
      obtain ⟨b,off,rfl,hc⟩:=hr.head (by omega)
      obtain ⟨hc1,hc2⟩:=hc k hlt
      have hb:b < wr.heap.size:=World.block_lt_of_cell? wr _ hc1
      have Htk:Hid (keyIn (L.take (k+1)) key=(keyIn (L.take k) key || ((qab L k).1.toList==key.toList))):=keyIn_take hlt
      clear hc hr
      cases hE:((qab L k).1.toList==key.toList)
      · go_wp2
        go_roundw
        case rel=>exact ⟨k+1,by omega,by go_num,qj hbw (qi _ _),by rw [Htk.out,hE,Hno.out];rfl⟩
        case measure=>simp [intOf];omega
      · go_wp2
        go_ret
        exact ⟨by rw [keyIn_at hlt hE];rfl,qj hbw (qi _ _)⟩
    · go_wp2
      go_ret
      exact ⟨by have h0:=Hno.out;rw [List.take_of_length_le (by omega)] at h0;rw [h0];rfl,hbw⟩
theorem isList_any (L:List Lab) (a:Option Addr) (cap:Nat) (w:World) (hl:L.length≤4398046511104) (hcap:L.length≤cap) (h:qbd w a L) (ho:LabsOk L):
    Calls Tryz.prog 82 #[.slice a L.length cap] w fun e w'=>e= .returned (.bool (qbz L))∧Below w.heap.size w w':=by
  by_cases h8:L.length≤8
  · go_enter Tryz.func82,Tryz.ntmps82
    go_wp2
    go_loopw [10] (fun i wr=> ∃ k:Nat,k≤L.length∧i= .int .i64 k∧Below w.heap.size w wr∧qf2 L k=true) (fun i _=>L.length - (intOf i).toNat)
    case atStart=>exact ⟨0,Nat.zero_le _,rfl,Below.refl _ _,rfl⟩
    case round=>
      obtain ⟨k,hk,rfl,hbw,hno⟩:=hrel
      have Hno:Hid (qf2 L k=true):=hno
      clear hno
      by_cases hlt:k < L.length
      · have hr:=h.below hbw
        obtain ⟨b,off,rfl,hc⟩:=hr.head (by omega)
        obtain ⟨hc1,hc2⟩:=hc k hlt
        have hb:b < wr.heap.size:=World.block_lt_of_cell? wr _ hc1
        have Hts:Hid (qf2 L (k+1)=(qf2 L k&&itemB L k)):=listTo_succ L k
        obtain ⟨o1,o2⟩:=ho.at hlt
        have c1:=fun w=>isName_any (qab L k).1 w o1
        have c2:=fun w=>isName_any (qab L k).2 w o2
        clear hc
        cases hE:qdl (qab L k).1
        · have HE:Hid (qbz L=false):=by show qbz L=false;unfold qbz;rw [qg4 L k _ hlt (by simp [itemB,hE]),Bool.and_false]
          rw [hE] at c1
          clear hE c2
          go_wp2
          go_quiet ((go_at_call 66;exact Calls.quiet_of_same (c1 _)))
          go_wp2
          go_ret
          exact ⟨by rw [HE.out];rfl,below_drewN (qj hbw (qi _ _)) _⟩
        · cases hE2:qdl (qab L k).2
          · have HE:Hid (qbz L=false):=by show qbz L=false;unfold qbz;rw [qg4 L k _ hlt (by simp [itemB,hE2]),Bool.and_false]
            rw [hE] at c1
            rw [hE2] at c2
            clear hE hE2
            go_wp2
            go_quiet (first| (go_at_call_of 66 (Value.string (qab L k).1);exact Calls.quiet_of_same (c1 _))| (go_at_call_of 66 (Value.string (qab L k).2);exact Calls.quiet_of_same (c2 _)))
            go_wp2
            go_ret
            exact ⟨by rw [HE.out];rfl,below_drewN (qj hbw (qi _ _)) _⟩
          · rw [hE] at c1
            rw [hE2] at c2
            have hrt:=(hr.take k)
            have c3:=fun w=>hasKey_any (L.take k) (qab L k).1 (some ⟨b,off,none⟩) cap w (by rw [List.length_take];omega)
            rw [List.length_take,Nat.min_eq_left (by omega)] at c3
            have hi1:(0:Int)≤(k:Int):=by omega
            have hi2:(k:Int)≤(cap:Int):=by omega
            cases hK:keyIn (L.take k) (qab L k).1
            · have HI:Hid (itemB L k=true):=by show itemB L k=true;simp [itemB,hE,hE2,hK]
              rw [hK] at c3
              clear hE hE2 hK hr
              go_wp2
              go_region_held3 (fun w'=>w'.cell? ⟨wr.heap.size,0,none⟩=some (.string (qab L k).1)∧w'.cell? ⟨wr.heap.size,1,none⟩=some (.string (qab L k).2)) (go_keep)
                (first
                  | (go_at_call_of 66 (Value.string (qab L k).1);refine (c1 _).mono ?_;rintro e w' ⟨rfl,rfl⟩)
                  | (go_at_call_of 66 (Value.string (qab L k).2);refine (c2 _).mono ?_;rintro e w' ⟨rfl,rfl⟩)
                  | (go_at_call 94;refine (c3 _ (by exact hrt.below (qi _ _).drew)).mono ?_;rintro e w' ⟨rfl,hb'⟩;have e1:=hb'.cell (p:=⟨wr.heap.size,0,none⟩) (by simp);have e2:=hb'.cell (p:=⟨wr.heap.size,1,none⟩) (by simp)))
              go_wp2
              go_roundw
              case rel=>exact ⟨k+1,by omega,by go_num,qj hbw (qj (qi _ _).drew (by assumption)),by rw [Hts.out,Hno.out,HI.out];rfl⟩
              case measure=>simp [intOf];omega
            · have HE:Hid (qbz L=false):=by show qbz L=false;unfold qbz;rw [qg4 L k _ hlt (by simp [itemB,hK]),Bool.and_false]
              rw [hK] at c3
              clear hE hE2 hK hr
              go_wp2
              go_region_held3 (fun w'=>w'.cell? ⟨wr.heap.size,0,none⟩=some (.string (qab L k).1)∧w'.cell? ⟨wr.heap.size,1,none⟩=some (.string (qab L k).2)) (go_keep)
                (first
                  | (go_at_call_of 66 (Value.string (qab L k).1);refine (c1 _).mono ?_;rintro e w' ⟨rfl,rfl⟩)
                  | (go_at_call_of 66 (Value.string (qab L k).2);refine (c2 _).mono ?_;rintro e w' ⟨rfl,rfl⟩)
                  | (go_at_call 94;refine (c3 _ (by exact hrt.below (qi _ _).drew)).mono ?_;rintro e w' ⟨rfl,hb'⟩;have e1:=hb'.cell (p:=⟨wr.heap.size,0,none⟩) (by simp);have e2:=hb'.cell (p:=⟨wr.heap.size,1,none⟩) (by simp)))
              go_wp2
              go_ret
              exact ⟨by rw [HE.out];rfl,qj hbw (qj (qi _ _).drew (by assumption))⟩
      · go_wp2
        go_ret
        exact ⟨by have h0:=Hno.out;rw [show k=L.length from by omega] at h0;simp [qbz,h8,h0],hbw⟩
  · go_enter Tryz.func82,Tryz.ntmps82
    go_wp2
    go_ret
    exact ⟨by simp [qbz,h8],Below.refl _ _⟩
structure Lst where
  a:Option Addr
  L:List Lab
  cap:Nat
def Lst.val (x:Lst):Value:= .slice x.a x.L.length x.cap
def Lst.ok (w:World) (x:Lst):Prop:=x.L.length≤4398046511104∧x.L.length≤x.cap∧qbd w x.a x.L∧LabsOk x.L
theorem Lst.ok.below {w w':World} {x:Lst} (h:x.ok w) (hb:Below w.heap.size w w'):x.ok w':=⟨h.1,h.2.1,h.2.2.1.below hb,h.2.2.2⟩
theorem areLists_any (xs:List Lst) (B cap:Nat) (w:World) (hx: ∀ x∈xs,x.ok w) (hn:xs.length≤100) (hB:B < w.heap.size) (hc: ∀ k (h:k < xs.length),w.cell? ⟨B,k,none⟩=some (xs[k].val)):
    Calls Tryz.prog 68 #[.slice (some ⟨B,0,none⟩) xs.length cap] w fun e w'=>e= .returned (.bool (xs.all fun x=>qbz x.L))∧Below w.heap.size w w':=by
  go_enter Tryz.func68,Tryz.ntmps68
  go_wp2
  go_loopw [7] (fun i wr=> ∃ k:Nat,k≤xs.length∧i= .int .i64 k∧Below w.heap.size w wr∧(xs.take k).all (fun x=>qbz x.L)=true) (fun i _=>xs.length - (intOf i).toNat)
  case atStart=>exact ⟨0,Nat.zero_le _,rfl,Below.refl _ _,rfl⟩
  case round=>
    obtain ⟨k,hk,rfl,hbw,hno⟩:=hrel
    have Hno:Hid ((xs.take k).all (fun x=>qbz x.L)=true):=hno
    clear hno
    by_cases hlt:k < xs.length
    · have hcell:wr.cell? ⟨B,k,none⟩=some (xs[k].val):=by rw [← hc k hlt];exact hbw.cell hB
      obtain ⟨x,hxe⟩: ∃ x,x=xs[k]:=⟨_,rfl⟩
      rw [← hxe] at hcell
      have hok:=(hx x (hxe▸List.getElem_mem hlt)).below hbw
      have Hx:Hid (x=xs[k]):=hxe
      clear hxe
      unfold Lst.val at hcell
      have c1:=isList_any x.L x.a x.cap wr hok.1 hok.2.1 hok.2.2.1 hok.2.2.2
      cases hE:qbz x.L
      · have HE:Hid (qbz x.L=false):=hE
        rw [hE] at c1
        clear hE hok
        go_wp2_with (go_at_call 82;refine c1.mono ?_;rintro e w' ⟨rfl,hb'⟩)
        go_ret
        refine ⟨?_,qj hbw hb'⟩
        rw [show (xs.all fun x=>qbz x.L)=false from List.all_eq_false.2 ⟨x,Hx.out▸List.getElem_mem hlt,by simp [HE.out]⟩]
        rfl
      · have HE:Hid (qbz x.L=true):=hE
        rw [hE] at c1
        clear hE hok
        go_wp2_with (go_at_call 82;refine c1.mono ?_;rintro e w' ⟨rfl,hb'⟩)
        go_roundw
        case rel=>
          refine ⟨k+1,by omega,by go_num,qj hbw hb',?_⟩
          rw [List.take_succ_eq_append_getElem hlt,List.all_append,Hno.out,← Hx.out]
          simp [HE.out]
        case measure=>simp [intOf];omega
    · go_wp2
      go_ret
      exact ⟨by have h0:=Hno.out;rw [List.take_of_length_le (by omega)] at h0;rw [h0];rfl,hbw⟩
theorem qhh (L:List Lab) (a:Option Addr) (cap:Nat) (w:World) (hl:L.length≤4398046511104) (h:qbd w a L) (ho:LabsOk L):
    Calls Tryz.prog 72 #[.slice a L.length cap] w fun e w'=>e= .returned (.bool (qbz L))∧ ∃ n,w'=w.drewN n:=by
  go_enter Tryz.func72,Tryz.ntmps72
  go_wp2
  go_loopw [3] (fun i wr=> ∃ k n:Nat,k≤L.length∧i= .int .i64 k∧wr=w.drewN n∧qf2 L k=true) (fun i _=>L.length - (intOf i).toNat)
  case atStart=>exact ⟨0,0,Nat.zero_le _,rfl,rfl,rfl⟩
  case round=>
    obtain ⟨k,n,hk,rfl,rfl,hno⟩:=hrel
    have Hno:Hid (qf2 L k=true):=hno
    clear hno
    by_cases hlt:k < L.length
    · obtain ⟨b,off,rfl,hc⟩:=h.head (by omega)
      obtain ⟨hc1,hc2⟩:=hc k hlt
      have Hts:Hid (qf2 L (k+1)=(qf2 L k&&itemB L k)):=listTo_succ L k
      obtain ⟨o1,o2⟩:=ho.at hlt
      have c1:=fun w=>name_any (qab L k).1 w o1
      have c2:=fun w=>name_any (qab L k).2 w o2
      have Hc:Hid (∀ k,k < L.length→w.cell? ⟨b,off+k * 2,none⟩=some (.string (qab L k).1)∧w.cell? ⟨b,off+k * 2+1,none⟩=some (.string (qab L k).2)):=hc
      clear hc
      by_cases hnm:qdl (qab L k).1=true∧qdl (qab L k).2=true
      · rw [hnm.1] at c1
        rw [hnm.2] at c2
        have Hnm:Hid (qdl (qab L k).1=true∧qdl (qab L k).2=true):=hnm
        clear hnm
        go_wp2_with (first| (go_at_call_of 70 (Value.string (qab L k).1);refine (c1 _).mono ?_;rintro e w' ⟨rfl,rfl⟩)| (go_at_call_of 70 (Value.string (qab L k).2);refine (c2 _).mono ?_;rintro e w' ⟨rfl,rfl⟩))
        go_loopw [6] (fun j wr=> ∃ m n:Nat,m≤k∧j= .int .i64 m∧wr=w.drewN n∧keyIn (L.take m) (qab L k).1=false) (fun j _=>k - (intOf j).toNat)
        case atStart=>exact ⟨0,n,Nat.zero_le _,rfl,rfl,rfl⟩
        case round=>
          obtain ⟨m,n',hm,rfl,rfl,hg⟩:=hrel
          have Hg:Hid (keyIn (L.take m) (qab L k).1=false):=hg
          clear hg
          by_cases hlt':m < k
          · obtain ⟨hd1,_⟩:=Hc.out m (by omega)
            have hml:m < L.length:=by omega
            have Htk:Hid (keyIn (L.take (m+1)) (qab L k).1=(keyIn (L.take m) (qab L k).1 || ((qab L m).1.toList==(qab L k).1.toList))):=keyIn_take (by omega)
            cases hE:((qab L m).1.toList==(qab L k).1.toList)
            · go_wp2
              go_quiet (fail)
              go_wp2
              go_roundw
              case rel=>exact ⟨m+1,_,by omega,by go_num,rfl,by rw [Htk.out,hE,Hg.out];rfl⟩
              case measure=>simp [intOf];omega
            · have HE:Hid (qbz L=false):=by
                show qbz L=false
                have:keyIn (L.take k) (qab L k).1=true:=by
                  have e1:qab (L.take k) m=qab L m:=by unfold qab;rw [List.getElem?_take,if_pos hlt']
                  refine keyIn_at (k:=m) (by rw [List.length_take];omega) ?_
                  rw [e1];exact hE
                unfold qbz;rw [qg4 L k _ hlt (by simp [itemB,this]),Bool.and_false]
              go_wp2
              go_quiet (fail)
              go_wp2
              go_ret
              exact ⟨by rw [HE.out];rfl,_,World.drewN_drewN ..⟩
          · have hg':=Hg.out
            rw [show m=k from by omega] at hg'
            have HI:Hid (itemB L k=true):=by show itemB L k=true;simp [itemB,Hnm.out.1,Hnm.out.2,hg']
            clear hg'
            go_wp2
            go_roundw
            case rel=>exact ⟨k+1,_,by omega,by go_num,rfl,by rw [Hts.out,HI.out,Hno.out];rfl⟩
            case measure=>simp [intOf];omega
      · have HE:Hid (qbz L=false):=by
          show qbz L=false
          unfold qbz;rw [qg4 L k _ hlt (by cases h1:qdl (qab L k).1<;>cases h2:qdl (qab L k).2<;>simp_all [itemB]),Bool.and_false]
        cases h1:qdl (qab L k).1
        · rw [h1] at c1
          clear h1 hnm
          go_wp2_with (first| (go_at_call_of 70 (Value.string (qab L k).1);refine (c1 _).mono ?_;rintro e w' ⟨rfl,rfl⟩)| (go_at_call_of 70 (Value.string (qab L k).2);refine (c2 _).mono ?_;rintro e w' ⟨rfl,rfl⟩))
          go_ret
          exact ⟨by rw [HE.out];rfl,_,rfl⟩
        · have h2:qdl (qab L k).2=false:=by
            cases h2:qdl (qab L k).2
            · rfl
            · exact absurd ⟨h1,h2⟩ hnm
          rw [h1] at c1
          rw [h2] at c2
          clear h1 h2 hnm
          go_wp2_with (first| (go_at_call_of 70 (Value.string (qab L k).1);refine (c1 _).mono ?_;rintro e w' ⟨rfl,rfl⟩)| (go_at_call_of 70 (Value.string (qab L k).2);refine (c2 _).mono ?_;rintro e w' ⟨rfl,rfl⟩))
          go_ret
          exact ⟨by rw [HE.out];rfl,_,rfl⟩
    · go_wp2
      go_ret
      exact ⟨by have h0:=Hno.out;rw [show k=L.length from by omega] at h0;unfold qbz;rw [h0,Bool.and_true];exact ret_bool (decide_eq_decide.2 (by omega)),_,rfl⟩
end
section
open Go.RowKit
theorem index_any (L:List Lab) (x:Lab) (a:Option Addr) (cap:Nat) (w:World) (hl:L.length≤4398046511104) (h:qbd w a L):
    Calls Tryz.prog 134 #[.slice a L.length cap,.agg #[.string x.1,.string x.2]] w fun e w'=>
      (∃ r:Int,e= .returned (.int .i64 r)∧decide (0≤r)=qc9 L x)∧Below w.heap.size w w':=by
  go_enter Tryz.func134,Tryz.ntmps134
  go_wp2
  go_loopw [8] (fun i wr=> ∃ k n:Nat,k≤L.length∧i= .int .i64 k∧wr=(w.alloc (.cells #[.string x.1,.string x.2] 85)).drewN n∧qc9 (L.take k) x=false) (fun i _=>L.length - (intOf i).toNat)
  case atStart=>exact ⟨0,0,Nat.zero_le _,rfl,rfl,rfl⟩
  case round=>
    obtain ⟨k,n,hk,rfl,rfl,hno⟩:=hrel
    have Hno:Hid (qc9 (L.take k) x=false):=hno
    clear hno
    by_cases hlt:k < L.length
    · obtain ⟨b,off,rfl,hc⟩:=h.head (by omega)
      obtain ⟨hc1,hc2⟩:=hc k hlt
      have hb:b < w.heap.size:=World.block_lt_of_cell? w _ hc1
      have htk:=labHas_take (x:=x) hlt
      have Htk:Hid (qc9 (L.take (k+1)) x=(qc9 (L.take k) x || labEq x (qab L k))):=htk
      clear htk
      cases hE:labEq x (qab L k)
      · have heq:=fun w=>(eql_api x.1 x.2 (qab L k).1 (qab L k).2 w).trans (congrArg (fun q=>Result.ok (Value.bool q) w) hE)
        have HE:Hid (labEq x (qab L k)=false):=hE
        clear hE
        go_wp2
        go_quiet (fail)
        go_wp2
        go_roundw
        case rel=>exact ⟨k+1,n+nq,by omega,by go_num,rfl,by rw [Htk.out,HE.out,Hno.out];rfl⟩
        case measure=>simp [intOf];omega
      · have heq:=fun w=>(eql_api x.1 x.2 (qab L k).1 (qab L k).2 w).trans (congrArg (fun q=>Result.ok (Value.bool q) w) hE)
        have HE:Hid (qc9 L x=true):=labHas_of_at hlt hE
        clear hE
        go_wp2
        go_quiet (fail)
        go_wp2
        go_ret
        exact ⟨⟨k,rfl,by rw [HE.out];simp⟩,below_drewN (below_drewN (qi _ _) _) _⟩
    · go_wp2
      go_ret
      exact ⟨⟨_,rfl,by have h0:=Hno.out;rw [List.take_of_length_le (by omega)] at h0;rw [h0];rfl⟩,below_drewN (qi _ _) _⟩
theorem contains_any (L:List Lab) (x:Lab) (a:Option Addr) (cap:Nat) (w:World) (hl:L.length≤4398046511104) (h:qbd w a L):
    Calls Tryz.prog 122 #[.slice a L.length cap,.agg #[.string x.1,.string x.2]] w fun e w'=>e= .returned (.bool (qc9 L x))∧Below w.heap.size w w':=by
  go_enter Tryz.func122,Tryz.ntmps122
  go_wp2_with (go_at_call 134;refine (index_any L x a cap _ hl (h.below (qi _ _))).mono ?_;rintro e w' ⟨⟨r,rfl,hr⟩,hb⟩;have Hr:Hid (decide (0≤r)=qc9 L x):=hr;clear hr)
  go_ret
  exact ⟨by rw [← Hr.out];rfl,qj (qi _ _) hb⟩
theorem fits_any (l L:List Lab) (a a':Option Addr) (cap cap':Nat) (w:World) (hl:l.length≤4398046511104) (hL:L.length≤4398046511104) (h:qbd w a l) (h':qbd w a' L):
    Calls Tryz.prog 105 #[.slice a l.length cap,.slice a' L.length cap'] w fun e w'=>e= .returned (.bool (qae l L))∧Below w.heap.size w w':=by
  go_enter Tryz.func105,Tryz.ntmps105
  go_wp2
  go_loopw [9] (fun i wr=> ∃ k:Nat,k≤l.length∧i= .int .i64 k∧Below w.heap.size w wr∧qae (l.take k) L=true) (fun i _=>l.length - (intOf i).toNat)
  case atStart=>exact ⟨0,Nat.zero_le _,rfl,Below.refl _ _,rfl⟩
  case round=>
    obtain ⟨k,hk,rfl,hbw,hno⟩:=hrel
    have Hno:Hid (qae (l.take k) L=true):=hno
    clear hno
    by_cases hlt:k < l.length
    · have hr:=h.below hbw
      have hr':=h'.below hbw
      obtain ⟨b,off,rfl,hc⟩:=hr.head (by omega)
      obtain ⟨hc1,hc2⟩:=hc k hlt
      have hb:b < wr.heap.size:=World.block_lt_of_cell? wr _ hc1
      have Htk:Hid (qae (l.take (k+1)) L=(qae (l.take k) L&&qc9 L (qab l k))):=labFits_take hlt
      clear hc
      cases hE:qc9 L (qab l k)
      · have HE:Hid (qc9 L (qab l k)=false):=hE
        clear hE
        go_wp2_with (go_at_call 122;refine (contains_any L (qab l k) a' cap' _ hL (hr'.below (qi _ _))).mono ?_;rintro e w' ⟨rfl,hb'⟩;rw [HE.out])
        go_ret
        exact ⟨by rw [labFits_of_at hlt HE.out];rfl,qj hbw (qj (qi _ _) hb')⟩
      · have HE:Hid (qc9 L (qab l k)=true):=hE
        clear hE
        go_wp2_with (go_at_call 122;refine (contains_any L (qab l k) a' cap' _ hL (hr'.below (qi _ _))).mono ?_;rintro e w' ⟨rfl,hb'⟩;rw [HE.out])
        go_roundw
        case rel=>exact ⟨k+1,by omega,by go_num,qj hbw (qj (qi _ _) hb'),by rw [Htk.out,HE.out,Hno.out];rfl⟩
        case measure=>simp [intOf];omega
    · go_wp2
      go_ret
      exact ⟨by have h0:=Hno.out;rw [List.take_of_length_le (by omega)] at h0;rw [h0];rfl,hbw⟩
theorem rfits_any (l L:List Lab) (a a':Option Addr) (cap cap':Nat) (w:World) (hl:l.length≤4398046511104) (hL:L.length≤4398046511104) (h:qbd w a l) (h':qbd w a' L):
    Calls Tryz.prog 87 #[.slice a l.length cap,.slice a' L.length cap'] w fun e w'=>e= .returned (.bool (qae l L))∧ ∃ n,w'=w.drewN n:=by
  go_enter Tryz.func87,Tryz.ntmps87
  go_wp2
  go_loopw [5] (fun i wr=> ∃ k n:Nat,k≤l.length∧i= .int .i64 k∧wr=w.drewN n∧qae (l.take k) L=true) (fun i _=>l.length - (intOf i).toNat)
  case atStart=>exact ⟨0,0,Nat.zero_le _,rfl,rfl,rfl⟩
  case round=>
    obtain ⟨k,n,hk,rfl,rfl,hno⟩:=hrel
    have Hno:Hid (qae (l.take k) L=true):=hno
    clear hno
    by_cases hlt:k < l.length
    · obtain ⟨b,off,rfl,hc⟩:=h.head (by omega)
      obtain ⟨hc1,hc2⟩:=hc k hlt
      have Htk:Hid (qae (l.take (k+1)) L=(qae (l.take k) L&&qc9 L (qab l k))):=labFits_take hlt
      clear hc
      go_wp2
      go_loopw [6,7] (fun f j wr=> ∃ (g:Bool) (m n:Nat),m≤L.length∧j= .int .i64 m∧f= .bool g∧wr=w.drewN n∧qc9 (L.take m) (qab l k)=g) (fun _ j _=>L.length - (intOf j).toNat)
      case atStart=>exact ⟨false,0,n,Nat.zero_le _,rfl,rfl,rfl,rfl⟩
      case round=>
        obtain ⟨g,m,n',hm,rfl,rfl,rfl,hg⟩:=hrel
        have Hg:Hid (qc9 (L.take m) (qab l k)=g):=hg
        clear hg
        by_cases hlt':m < L.length
        · obtain ⟨b',off',rfl,hc'⟩:=h'.head (by omega)
          obtain ⟨hc1',hc2'⟩:=hc' m hlt'
          clear hc'
          have Htk':Hid (qc9 (L.take (m+1)) (qab l k)=(qc9 (L.take m) (qab l k) || labEq (qab l k) (qab L m))):=labHas_take hlt'
          have heq:=fun w=>(eql_ref (qab L m).1 (qab L m).2 (qab l k).1 (qab l k).2 w)
          cases g
          · go_wp2
            go_quiet (fail)
            go_wp2
            go_roundw
            case rel=>exact ⟨_,m+1,_,by omega,by go_num,rfl,rfl,by rw [Htk'.out,Hg.out,Bool.false_or,labEq_comm]⟩
            case measure=>simp [intOf];omega
          · go_wp2
            go_quiet (fail)
            go_wp2
            go_roundw
            case rel=>exact ⟨_,m+1,_,by omega,by go_num,rfl,rfl,by rw [Htk'.out,Hg.out,Bool.true_or]⟩
            case measure=>simp [intOf];omega
        · have hg':=Hg.out
          rw [List.take_of_length_le (by omega)] at hg'
          have HG:Hid (qc9 L (qab l k)=g):=hg'
          clear hg'
          cases g
          · go_wp2
            go_ret
            exact ⟨by rw [labFits_of_at hlt HG.out];rfl,_,rfl⟩
          · go_wp2
            go_roundw
            case rel=>exact ⟨k+1,_,by omega,by go_num,rfl,by rw [Htk.out,HG.out,Hno.out];rfl⟩
            case measure=>simp [intOf];omega
    · go_wp2
      go_ret
      exact ⟨by have h0:=Hno.out;rw [List.take_of_length_le (by omega)] at h0;rw [h0];rfl,_,rfl⟩
end
end Go.Proofs.YtchddaafibjmgaaGreat
