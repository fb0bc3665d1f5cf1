/-
  The law's own model of a state, as maps. No statement is proved here.
-/
import Derived.Test.YtgmjnjbmolalmaaTblMS
import Derived.Test.YtgmjnjbmolalmaaTblMI
import Derived.Test.YtgmjnjbmolalmaaTblMR
import Derived.Test.YtgmjnjbmolalmaaL7Plain
namespace Go.Proofs.Ytgmjnjbmolalmaa
open Go.RowKit Tot

section
variable {α β γ : Type} [Tot α] (h : β → γ)
/-- Values turned. -/
def mapV (L : List (α × β)) : List (α × γ) := L.map fun p => (p.1, h p.2)
omit [Tot α] in
theorem mapV_len (L : List (α × β)) : (mapV h L).length = L.length := by simp [mapV]
theorem mapV_look (L : List (α × β)) (k : α) : Srt.look (mapV h L) k = (Srt.look L k).map h := by
  induction L with
  | nil => rfl
  | cons p r ih =>
    show Srt.look ((p.1, h p.2) :: mapV h r) k = _
    rw [Srt.look_cons, Srt.look_cons, ih]
    simp only
    split <;> rfl
theorem mapV_has (L : List (α × β)) (k : α) : Srt.has (mapV h L) k = Srt.has L k := by
  unfold Srt.has
  rw [mapV_look]
  cases Srt.look L k <;> rfl
theorem mapV_pos (L : List (α × β)) (k : α) : Srt.pos (mapV h L) k = Srt.pos L k := by
  induction L with
  | nil => rfl
  | cons p r ih =>
    show Srt.pos ((p.1, h p.2) :: mapV h r) k = _
    rw [Srt.pos_cons, Srt.pos_cons, ih]
theorem mapV_put (L : List (α × β)) (k : α) (v : β) : Srt.put (mapV h L) k (h v) = mapV h (Srt.put L k v) := by
  unfold Srt.put
  rw [mapV_has, mapV_pos]
  split
  · simp [mapV, List.map_set]
  · simp [mapV, List.map_append, List.map_take, List.map_drop]
theorem mapV_del (L : List (α × β)) (k : α) : Srt.del (mapV h L) k = mapV h (Srt.del L k) := by
  unfold Srt.del
  rw [mapV_has, mapV_pos]
  split
  · simp [mapV, List.map_append, List.map_take, List.map_drop]
  · rfl
end
/-- A state's pairs, numbers and replies, as the model's maps have them. -/
def keysM (s : StV) : List (ByteArray × ByteArray) := mapV (fun v : ByteArray × Bool => v.1) s.pairs
def seqsM (s : StV) : List (Int × Int) := mapV (fun v : Int × RepV => v.1) s.sess
def toldM (s : StV) : List (Int × RepV) := mapV (fun v : Int × RepV => v.2) s.sess

/-- The model at m, whose maps are at b1, b2 and b3, has what a state has. -/
structure Md (w : World) (m b1 b2 b3 : Nat) (s : StV) : Prop where
  blk : w.heap[m]? = some (.cells #[.int .i64 s.index, .int .i64 s.term, .map (some b1), .map (some b2), .map (some b3)] 29 (0, 0))
  keys : MS.Tb w b1 (keysM s)
  seqs : MI.Tb w b2 (seqsM s)
  told : MR.Tb w b3 (toldM s)
  n12 : b1 ≠ b2
  n13 : b1 ≠ b3
  n23 : b2 ≠ b3
/-- The model's blocks. -/
def Mb (m b1 b2 b3 : Nat) (i : Nat) : Prop := i = m ∨ i = b1 ∨ i = b2 ∨ i = b3
section
variable {w w' : World} {m b1 b2 b3 : Nat} {s : StV}
theorem Md.keep {S : Nat → Prop} (h : Md w m b1 b2 b3 s) (k : Kept S w w') (hd : ∀ i, Mb m b1 b2 b3 i → ¬ S i) : Md w' m b1 b2 b3 s :=
  ⟨k.blk h.blk (hd _ (.inl rfl)), h.keys.keep k (hd _ (.inr (.inl rfl))), h.seqs.keep k (hd _ (.inr (.inr (.inl rfl)))), h.told.keep k (hd _ (.inr (.inr (.inr rfl)))), h.n12, h.n13, h.n23⟩
theorem Md.kept (h : Md w m b1 b2 b3 s) (k : Kept noBlock w w') : Md w' m b1 b2 b3 s := h.keep k (fun _ _ h => h)
theorem Md.lt (h : Md w m b1 b2 b3 s) : ∀ i, Mb m b1 b2 b3 i → i < w.heap.size := fun i hi => by
  rcases hi with rfl | rfl | rfl | rfl
  · exact lt_of_blk h.blk
  · exact h.keys.lt
  · exact h.seqs.lt
  · exact h.told.lt
theorem Md.ne1 (h : Md w m b1 b2 b3 s) : b1 ≠ m := h.keys.ne h.blk
theorem Md.ne2 (h : Md w m b1 b2 b3 s) : b2 ≠ m := h.seqs.ne h.blk
theorem Md.ne3 (h : Md w m b1 b2 b3 s) : b3 ≠ m := h.told.ne h.blk
theorem Md.cells (h : Md w m b1 b2 b3 s) : w.cell? ⟨m, 0, none⟩ = some (.int .i64 s.index) ∧ w.cell? ⟨m, 1, none⟩ = some (.int .i64 s.term) ∧ w.cell? ⟨m, 2, none⟩ = some (.map (some b1)) ∧ w.cell? ⟨m, 3, none⟩ = some (.map (some b2)) ∧ w.cell? ⟨m, 4, none⟩ = some (.map (some b3)) :=
  ⟨cell_of_row _ _ _ _ _ _ h.blk, cell_of_row _ _ _ _ _ _ h.blk, cell_of_row _ _ _ _ _ _ h.blk, cell_of_row _ _ _ _ _ _ h.blk, cell_of_row _ _ _ _ _ _ h.blk⟩
end
/-- A text and a client's number are keys. -/
theorem fits_key {s : StV} {p : ByteArray × (ByteArray × Bool)} (hs : s.Right) (h : p ∈ s.pairs) : MS.Fits p.1 := by
  have := (hs.2.2.1.2.1.2 p h).2.1
  unfold MS.Fits maxLen
  omega
theorem fits_client {s : StV} {x : Int × (Int × RepV)} (hs : s.Right) (h : x ∈ s.sess) : -9223372036854775808 ≤ x.1 ∧ x.1 ≤ 9223372036854775807 := by
  have := hs.2.2.1.2.2.2 x h
  unfold SessOk at this
  omega
theorem may_key {c : CmdV} (h : c.May) (h0 : c.op ≠ 0) : MS.Fits c.key := by
  unfold CmdV.May at h
  unfold MS.Fits maxLen
  omega
theorem may_client {c : CmdV} (h : c.May) : -9223372036854775808 ≤ c.client ∧ c.client ≤ 9223372036854775807 := by
  unfold CmdV.May at h
  omega
end Go.Proofs.Ytgmjnjbmolalmaa
