/- Trees: plain mathematics. -/
import Derived.Test.YthgojbaindejjaaGreatDoorMem
namespace Go.Proofs.YthgojbaindejjaaGreatDoor.tr
set_option linter.unusedVariables false

inductive Tr where
  | node (kind fn axis : Int) (name : ByteArray) (nums : List Int) (kids : List Tr)

def Tr.kind : Tr → Int | .node k _ _ _ _ _ => k
def Tr.fn : Tr → Int | .node _ f _ _ _ _ => f
def Tr.axis : Tr → Int | .node _ _ a _ _ _ => a
def Tr.name : Tr → ByteArray | .node _ _ _ s _ _ => s
def Tr.nums : Tr → List Int | .node _ _ _ _ ns _ => ns
def Tr.kids : Tr → List Tr | .node _ _ _ _ _ ks => ks

theorem Tr.ind {P : Tr → Prop} (h : ∀ k f a s ns ks, (∀ T ∈ ks, P T) → P (.node k f a s ns ks)) : ∀ T, P T
  | .node k f a s ns ks => h k f a s ns ks fun T hT => Tr.ind h T

mutual
def sizeT : Tr → Nat | .node _ _ _ _ _ ks => sizeL ks + 1
def sizeL : List Tr → Nat | [] => 0 | T :: r => sizeT T + sizeL r
end
mutual
def deepT : Tr → Nat | .node _ _ _ _ _ ks => deepL ks + 1
def deepL : List Tr → Nat | [] => 0 | T :: r => max (deepT T) (deepL r)
end
mutual
def numsT : Tr → Nat | .node _ _ _ _ ns ks => ns.length + numsL ks
def numsL : List Tr → Nat | [] => 0 | T :: r => numsT T + numsL r
end
/-- How many nodes are left of most; -1 if there are more. -/
def leftT (T : Tr) (m : Int) : Int := if (sizeT T : Int) ≤ m then m - sizeT T else -1
def leftL (l : List Tr) (m : Int) : Int := if (sizeL l : Int) ≤ m then m - sizeL l else -1

theorem size_node (k f a s ns ks) : sizeT (.node k f a s ns ks) = sizeL ks + 1 := by simp only [sizeT]
theorem deep_node (k f a s ns ks) : deepT (.node k f a s ns ks) = deepL ks + 1 := by simp only [deepT]
theorem nums_node (k f a s ns ks) : numsT (.node k f a s ns ks) = ns.length + numsL ks := by simp only [numsT]
theorem sizeL_cons (T r) : sizeL (T :: r) = sizeT T + sizeL r := by simp only [sizeL]
theorem deepL_cons (T r) : deepL (T :: r) = max (deepT T) (deepL r) := by simp only [deepL]
theorem numsL_cons (T r) : numsL (T :: r) = numsT T + numsL r := by simp only [numsL]
theorem size_pos (T : Tr) : 1 ≤ sizeT T := by cases T; rw [size_node]; omega
theorem deep_pos (T : Tr) : 1 ≤ deepT T := by cases T; rw [deep_node]; omega

theorem cut_at {α : Type} {l : List α} {k : Nat} {T : α} (h : l[k]? = some T) : l.drop k = T :: l.drop (k + 1) := by
  obtain ⟨hl, rfl⟩ := List.getElem?_eq_some_iff.1 h
  exact (List.drop_eq_getElem_cons hl)
theorem sizeL_step {l : List Tr} {k : Nat} {T : Tr} (h : l[k]? = some T) : sizeL (l.drop k) = sizeT T + sizeL (l.drop (k + 1)) := by rw [cut_at h, sizeL_cons]
theorem deepL_step {l : List Tr} {k : Nat} {T : Tr} (h : l[k]? = some T) : deepL (l.drop k) = max (deepT T) (deepL (l.drop (k + 1))) := by rw [cut_at h, deepL_cons]
theorem numsL_step {l : List Tr} {k : Nat} {T : Tr} (h : l[k]? = some T) : numsL (l.drop k) = numsT T + numsL (l.drop (k + 1)) := by rw [cut_at h, numsL_cons]
theorem sizeL_end {l : List Tr} {k : Nat} (h : l.length ≤ k) : sizeL (l.drop k) = 0 := by rw [List.drop_eq_nil_of_le h]; simp only [sizeL]
theorem deepL_end {l : List Tr} {k : Nat} (h : l.length ≤ k) : deepL (l.drop k) = 0 := by rw [List.drop_eq_nil_of_le h]; simp only [deepL]
theorem numsL_end {l : List Tr} {k : Nat} (h : l.length ≤ k) : numsL (l.drop k) = 0 := by rw [List.drop_eq_nil_of_le h]; simp only [numsL]

theorem deep_size (T : Tr) : deepT T ≤ sizeT T := by
  induction T using Tr.ind with
  | h k f a s ns ks ih =>
    rw [size_node, deep_node]
    have : deepL ks ≤ sizeL ks := by
      clear k f a s ns
      induction ks with
      | nil => simp only [deepL, sizeL]; omega
      | cons T r ihr =>
        rw [sizeL_cons, deepL_cons]
        have h1 := ih T (by simp)
        have h2 := ihr fun T hT => ih T (by simp [hT])
        omega
    omega
theorem kid_size {l : List Tr} {k : Nat} {T : Tr} (h : l[k]? = some T) : sizeT T ≤ sizeL l := by
  induction l generalizing k with
  | nil => simp at h
  | cons U r ih =>
    rw [sizeL_cons]
    cases k with
    | zero => simp at h; subst h; omega
    | succ k => have := ih (by simpa using h); omega
theorem kids_size (l : List Tr) : l.length ≤ sizeL l := by
  induction l with
  | nil => simp
  | cons T r ih => rw [sizeL_cons, List.length_cons]; have := size_pos T; omega
end Go.Proofs.YthgojbaindejjaaGreatDoor.tr
