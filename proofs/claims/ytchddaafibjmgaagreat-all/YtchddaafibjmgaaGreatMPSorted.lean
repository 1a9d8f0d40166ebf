import Derived.Test.YtchddaafibjmgaaGreatMPJudge1
import Derived.Test.YtchddaafibjmgaaGreatMIter
set_option maxRecDepth 100000
set_option maxHeartbeats 20000000
namespace Go.Proofs.YtchddaafibjmgaaGreat
section
open Go.RowKit Go.Maps
theorem before_lt: ∀ {a b:List UInt8},bytesBefore a b=true→a < b
  | [],[],h=>by simp [bytesBefore] at h
  | [],b::s,_=>List.nil_lt_cons b s
  | a::r,[],h=>by simp [bytesBefore] at h
  | a::r,b::s,h=>by
    rw [List.cons_lt_cons_iff]
    simp only [bytesBefore,Bool.or_eq_true,Bool.and_eq_true,decide_eq_true_eq,beq_iff_eq] at h
    rcases h with h| ⟨h1,h2⟩
    · exact .inl h
    · exact .inr ⟨h1,before_lt h2⟩
theorem sortedKeys_eq {α:Type} {L:List (qn×α)} (hs:qad L) {ss:List (List UInt8)} (hp:ss.Perm (L.map (·.1))):ss.mergeSort (fun x y=>decide (x≤y))=L.map (·.1):=by
  have h1:ss.mergeSort (fun x y=>decide (x≤y))=(L.map (·.1)).mergeSort (fun x y=>decide (x≤y)):=mergeSort_of_perm hp
  rw [h1]
  apply List.mergeSort_of_pairwise
  rw [List.pairwise_map]
  exact List.Pairwise.imp (fun {p q} h=>by simpa using List.le_of_lt (before_lt h)) hs
theorem qhc (L:List (qn×Value)):strKeys (qgw L)=L.map (·.1):=by
  simp [strKeys,qgv,strOf]
def qa9 {α:Type} (L:List (qn×α)):List Value:=L.map fun p=> .string (bs p.1)
theorem qeq {α β:Type} (f:α→β) (L:List (qn×α)):qa9 (mapV f L)=qa9 L:=by simp [qa9,mapV]
theorem keysN_any (b:Nat) (W:World):Calls Tryz.prog 79 #[.map (some b)] W fun e w'=>e= .returned (.func (.func 92) #[] #[.pointer (some ⟨W.heap.size,0,none⟩)])∧w'=W.alloc (.cells #[.map (some b)] 112):=callsIn_wide.1 (Tryz.maps_Keys_79 (some b) W)
theorem keysP_any (b:Nat) (W:World):Calls Tryz.prog 80 #[.map (some b)] W fun e w'=>e= .returned (.func (.func 93) #[] #[.pointer (some ⟨W.heap.size,0,none⟩)])∧w'=W.alloc (.cells #[.map (some b)] 113):=callsIn_wide.1 (Tryz.maps_Keys_80 (some b) W)
theorem ownsRow_zero {w:World} {base:Nat} {e:TypeId} {size:Nat} {v:Value} {n:Nat} {xs:List Value} (h:w.ownsRow base e size v n xs):w.ownsRow 0 e size v n xs:=by
  refine ⟨h.1,?_⟩
  rcases h.2 with hn| ⟨g,cap,cur,rfl,_,r⟩
  · exact .inl hn
  · exact .inr ⟨g,cap,cur,rfl,Nat.zero_le _,r⟩
theorem sorted_tail {α:Type} {w w0:World} {v:Value} {L:List (qn×α)} {ss:List (List UInt8)} (hs:qad L) (hp:ss.Perm (L.map (·.1))) (hrow:w.ownsRow w0.heap.size 9 1 v ss.length ((ss.mergeSort (fun x y=>decide (x≤y))).map encStr)):
    ∃ ao cap,v= .slice ao L.length cap∧w.ownsRow 0 9 1 (.slice ao L.length cap) L.length (qa9 L):=by
  have hl:ss.length=L.length:=by rw [hp.length_eq,List.length_map]
  rw [sortedKeys_eq hs hp,hl] at hrow
  have hr:=ownsRow_zero hrow
  obtain ⟨ao,cap,rfl⟩:=qv hr
  refine ⟨ao,cap,rfl,?_⟩
  have:(L.map (·.1)).map encStr=qa9 L:=by simp [qa9,encStr,bs]
  rw [this] at hr
  exact hr
theorem sortedN_any {w:World} {b:Nat} {L:List (qn×Value)} (hown:qai Tryz.prog w 9 b L) (hl:L.length≤100000):
    Calls Tryz.prog 78 #[.func (.func 92) #[] #[.pointer (some ⟨w.heap.size,0,none⟩)]] (w.alloc (.cells #[.map (some b)] 112)) fun e w'=> ∃ ao cap,e= .returned (.slice ao L.length cap)∧w'.ownsRow 0 9 1 (.slice ao L.length cap) L.length (qa9 L)∧Below w.heap.size w w':=by
  refine (callsIn_wide.1 (Tryz.slices_Sorted_keys_78_79 b L.length (qgw L) qct w hown (by rw [qdy];unfold maxLen;omega) (by rw [qdy];omega))).mono ?_
  rintro e w' ⟨v,ss,rfl,hp,hrow,_,hb⟩
  rw [qhc] at hp
  obtain ⟨ao,cap,rfl,hr⟩:=sorted_tail (hown.sorted strK) hp hrow
  exact ⟨ao,cap,rfl,hr,qj (qi _ _) hb⟩
theorem sortedP_any {w:World} {b:Nat} {L:List (qn×Value)} (hown:qai Tryz.prog w 9 b L) (hl:L.length≤100000):
    Calls Tryz.prog 78 #[.func (.func 93) #[] #[.pointer (some ⟨w.heap.size,0,none⟩)]] (w.alloc (.cells #[.map (some b)] 113)) fun e w'=> ∃ ao cap,e= .returned (.slice ao L.length cap)∧w'.ownsRow 0 9 1 (.slice ao L.length cap) L.length (qa9 L)∧Below w.heap.size w w':=by
  refine (callsIn_wide.1 (Tryz.slices_Sorted_keys_78_80 b L.length (qgw L) qct w hown (by rw [qdy];unfold maxLen;omega) (by rw [qdy];omega))).mono ?_
  rintro e w' ⟨v,ss,rfl,hp,hrow,_,hb⟩
  rw [qhc] at hp
  obtain ⟨ao,cap,rfl,hr⟩:=sorted_tail (hown.sorted strK) hp hrow
  exact ⟨ao,cap,rfl,hr,qj (qi _ _) hb⟩
end
end Go.Proofs.YtchddaafibjmgaaGreat
