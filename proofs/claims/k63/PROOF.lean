import PyProof.Rows.All
import Wide.All
import OpenK.AllK
import Wide.FinOn
import HandS.ForMost
import HandS.ForExc
import HandS.ExcInit
import HandS.FStr
import HandS.DictComp
import HandS.HeadHook1
import HandS.Style
import HandS.CallSlots
import HandS.Text
import HandS.SortOrd
import HandS.SortRule
import HandS.SortInts
import PyProof.WalkInts
import PyProof.FString5
import KE.KDictPairs
import HandS.Defaults
import HandS.WordsExc
import KE.KStateDown
import HandS.More
import HandS.Head0
import HandS.Head1
import HandS.Head2
import HandS.HeadEnd
import HandS.HeadHook2
import HandS.SetFor
import HandS.Strs
import HandS.IsInst
import HandS.ExcIs
import HandS.ExcField
import PyProof.Rows.RuleN_isinstance
import HandS.Iter
import KE.KDictList
import KE.DataMinMax
import HandS.Flow
import HandS.TupLe
import HandS.Gcd
import HandS.TupAny
import KE.KUnpack
import HandS.Deep
import HandS.TupLen
import HandS.Records
import HandS.Star
import KE.KDictSum
import PySem.Challenge.RW_treeserved_k63_ledgers_judged
set_option Elab.async false
set_option linter.all false
set_option maxRecDepth 100000
/-! Data in place of heaps: what a value stands for, slots that own their list, judgements over data. -/
namespace DL
open PySem PySem.Spec PyProof.Rows L2
abbrev St := L2.St

inductive D where
  | non | bl (b : Bool) | int (i : Int) | str (s : Str) | lst (xs : List D) | tup (xs : List D) | dic (kvs : List (Key × D))
  /-- a tuple that may be a key; a dict with such keys, of ints and texts -/
  | ktp (ks : List Key) | dtp (kvs : List (List Key × Key))
  deriving Inhabited

/-- a list, a dict that may be read; with some B: one that is new since B -/
def LstM (K : PySem.W.Frag) (H : Hp) : Option Hp → Addr → List V → Prop
  | none, a, vs => SqL K H a vs
  | some B, a, vs => B a = none ∧ H a = some (.lst vs)
def DicM (H : Hp) : Option Hp → Addr → List (Key × V) → Prop
  | none, a, kvs => Rd H a (.dK kvs)
  | some B, a, kvs => B a = none ∧ H a = some (.dK kvs)
def DtM (H : Hp) : Option Hp → Addr → List (List Key × V) → Prop
  | none, a, kvs => Rd H a (.dT kvs)
  | some B, a, kvs => B a = none ∧ H a = some (.dT kvs)
def kvV (kvs : List (List Key × Key)) : List (List Key × V) := kvs.map fun p => (p.1, kV p.2)
/-- a tuple, as it was made: it has no dict (dict(..) looks there for keys) -/
def TupP (H : Hp) (a : Addr) (vs : List V) : Prop := ∃ ob : Obj, H a = some (.frz ob (.tup vs)) ∧ ob.dict = none
section
variable (K : PySem.W.Frag) (H : Hp) (M : Option Hp)
mutual
/-- v stands for d -/
def Rep : D → V → Prop
  | .non, v => v = .non
  | .bl b, v => v = .bl b
  | .int i, v => v = .int i
  | .str s, v => v = .str s
  | .lst ds, v => ∃ a vs, v = .ref a ∧ LstM K H M a vs ∧ RepA ds vs
  | .tup ds, v => ∃ a vs, v = .ref a ∧ TupP H a vs ∧ RepA ds vs
  | .dic kds, v => ∃ a kvs, v = .ref a ∧ DicM H M a kvs ∧ RepK kds kvs
  | .ktp ks, v => ∃ a, v = .ref a ∧ H a = some (.tup (ks.map kV))
  | .dtp kvs, v => ∃ a, v = .ref a ∧ DtM H M a (kvV kvs)
def RepA : List D → List V → Prop
  | [], vs => vs = []
  | d :: ds, vs => ∃ v r, vs = v :: r ∧ Rep d v ∧ RepA ds r
def RepK : List (Key × D) → List (Key × V) → Prop
  | [], vs => vs = []
  | (k, d) :: r, vs => ∃ v s, vs = (k, v) :: s ∧ Rep d v ∧ RepK r s
end
end

theorem SqL.mono {K : PySem.W.Frag} {H H' : Hp} (hH : ∀ b u, Rd H b u → Rd H' b u) {a : Addr} {vs : List V} (h : SqL K H a vs) : SqL K H' a vs := by
  rcases h with h | h
  · exact .inl (hH _ _ h)
  · exact .inr h
theorem TupP.sq {K : PySem.W.Frag} {H : Hp} {a : Addr} {vs : List V} (h : TupP H a vs) : SqT K H a vs := let ⟨ob, e, _⟩ := h; .inl (.inr ⟨ob, e⟩)
theorem SqT.mono {K : PySem.W.Frag} {H H' : Hp} (hH : ∀ b xs, Rd H b (.tup xs) → Rd H' b (.tup xs)) {a : Addr} {vs : List V} (h : SqT K H a vs) : SqT K H' a vs := by
  rcases h with h | h
  · exact .inl (hH _ _ h)
  · exact .inr h
/-- how a representation is carried to another heap -/
structure Mv (K : PySem.W.Frag) (H H' : Hp) (M M' : Option Hp) : Prop where
  l : ∀ a vs, LstM K H M a vs → LstM K H' M' a vs
  d : ∀ a vs, DicM H M a vs → DicM H' M' a vs
  t : ∀ a vs, TupP H a vs → TupP H' a vs
  k : ∀ a vs, H a = some (.tup vs) → H' a = some (.tup vs)
  e : ∀ a kvs, DtM H M a kvs → DtM H' M' a kvs

section
variable {K : PySem.W.Frag} {H H' : Hp} {M M' : Option Hp}
mutual
theorem Rep.mv (m : Mv K H H' M M') : ∀ (d : D) (v : V), Rep K H M d v → Rep K H' M' d v
  | .non, v, h => h
  | .bl b, v, h => h
  | .int i, v, h => h
  | .str s, v, h => h
  | .lst ds, v, h => by
    obtain ⟨a, vs, e, s, q⟩ := h
    exact ⟨a, vs, e, m.l _ _ s, RepA.mv m ds vs q⟩
  | .tup ds, v, h => by
    obtain ⟨a, vs, e, s, q⟩ := h
    exact ⟨a, vs, e, m.t _ _ s, RepA.mv m ds vs q⟩
  | .dic kds, v, h => by
    obtain ⟨a, vs, e, s, q⟩ := h
    exact ⟨a, vs, e, m.d _ _ s, RepK.mv m kds vs q⟩
  | .ktp ks, v, h => by
    obtain ⟨a, e, s⟩ := h
    exact ⟨a, e, m.k _ _ s⟩
  | .dtp kvs, v, h => by
    obtain ⟨a, e, s⟩ := h
    exact ⟨a, e, m.e _ _ s⟩
theorem RepA.mv (m : Mv K H H' M M') : ∀ (ds : List D) (vs : List V), RepA K H M ds vs → RepA K H' M' ds vs
  | [], vs, h => h
  | d :: ds, vs, h => by
    obtain ⟨v, r, e, h1, h2⟩ := h
    exact ⟨v, r, e, Rep.mv m d v h1, RepA.mv m ds r h2⟩
theorem RepK.mv (m : Mv K H H' M M') : ∀ (ds : List (Key × D)) (vs : List (Key × V)), RepK K H M ds vs → RepK K H' M' ds vs
  | [], vs, h => h
  | (k, d) :: ds, vs, h => by
    obtain ⟨v, r, e, h1, h2⟩ := h
    exact ⟨v, r, e, Rep.mv m d v h1, RepK.mv m ds r h2⟩
end
end

/-! ### data without lists and dicts -/
mutual
def D.imm : D → Bool
  | .lst _ => false
  | .dic _ => false
  | .dtp _ => false
  | .tup ds => immA ds
  | _ => true
def immA : List D → Bool
  | [] => true
  | d :: ds => d.imm && immA ds
end
section
variable {K : PySem.W.Frag} {H : Hp} {M M' : Option Hp}
mutual
theorem Rep.imm : ∀ (d : D) (v : V), d.imm = true → Rep K H M d v → Rep K H M' d v
  | .non, v, _, h => h
  | .bl b, v, _, h => h
  | .int i, v, _, h => h
  | .str s, v, _, h => h
  | .lst ds, v, i, h => by simp [D.imm] at i
  | .dic kds, v, i, h => by simp [D.imm] at i
  | .dtp kvs, v, i, h => by simp [D.imm] at i
  | .ktp ks, v, _, h => h
  | .tup ds, v, i, h => by
    obtain ⟨a, vs, e, s, q⟩ := h
    exact ⟨a, vs, e, s, RepA.imm ds vs (by simpa [D.imm] using i) q⟩
theorem RepA.imm : ∀ (ds : List D) (vs : List V), immA ds = true → RepA K H M ds vs → RepA K H M' ds vs
  | [], vs, _, h => h
  | d :: ds, vs, i, h => by
    obtain ⟨v, r, e, h1, h2⟩ := h
    have i' : d.imm = true ∧ immA ds = true := by simpa [immA] using i
    exact ⟨v, r, e, Rep.imm d v i'.1 h1, RepA.imm ds r i'.2 h2⟩
end
end

/-! ### lists of representations -/
section
variable {K : PySem.W.Frag} {H : Hp} {M : Option Hp}
theorem RepA.len : ∀ {ds : List D} {vs : List V}, RepA K H M ds vs → vs.length = ds.length
  | [], vs, h => by
    have e : vs = [] := h
    rw [e] <;> rfl
  | d :: ds, vs, h => by
    obtain ⟨v, r, e, h1, h2⟩ := h
    rw [e, List.length_cons, List.length_cons, RepA.len h2]
theorem RepA.get : ∀ {ds : List D} {vs : List V} {i : Nat} {d : D}, RepA K H M ds vs → ds[i]? = some d → ∃ v, vs[i]? = some v ∧ Rep K H M d v
  | [], vs, i, d, h, e => by simp at e
  | x :: ds, vs, 0, d, h, e => by
    obtain ⟨v, r, rfl, h1, h2⟩ := h
    have : x = d := by simpa using e
    subst this
    exact ⟨v, rfl, h1⟩
  | x :: ds, vs, i + 1, d, h, e => by
    obtain ⟨v, r, rfl, h1, h2⟩ := h
    exact RepA.get (i := i) h2 (by simpa using e)
theorem RepA.get' : ∀ {ds : List D} {vs : List V} {i : Nat} {v : V}, RepA K H M ds vs → vs[i]? = some v → ∃ d, ds[i]? = some d ∧ Rep K H M d v
  | [], vs, i, v, h, e => by
    have z : vs = [] := h
    rw [z] at e
    simp at e
  | x :: ds, vs, 0, w, h, e => by
    obtain ⟨v, r, rfl, h1, h2⟩ := h
    have : v = w := by simpa using e
    subst this
    exact ⟨x, rfl, h1⟩
  | x :: ds, vs, i + 1, w, h, e => by
    obtain ⟨v, r, rfl, h1, h2⟩ := h
    exact RepA.get' (i := i) h2 (by simpa using e)
theorem RepA.app : ∀ {ds es : List D} {vs ws : List V}, RepA K H M ds vs → RepA K H M es ws → RepA K H M (ds ++ es) (vs ++ ws)
  | [], es, vs, ws, h, g => by
    have z : vs = [] := h
    rw [z]
    exact g
  | x :: ds, es, vs, ws, h, g => by
    obtain ⟨v, r, rfl, h1, h2⟩ := h
    exact ⟨v, r ++ ws, rfl, h1, RepA.app h2 g⟩
theorem RepA.one {d : D} {v : V} (h : Rep K H M d v) : RepA K H M [d] [v] := ⟨v, [], rfl, h, rfl⟩
theorem RepA.of_get : ∀ {ds : List D} {vs : List V}, ds.length = vs.length → (∀ (i : Nat) (d : D) (v : V), ds[i]? = some d → vs[i]? = some v → Rep K H M d v) → RepA K H M ds vs
  | [], [], _, _ => rfl
  | [], _ :: _, h, _ => by simp at h
  | _ :: _, [], h, _ => by simp at h
  | d :: ds, v :: vs, h, g => ⟨v, vs, rfl, g 0 d v rfl rfl, RepA.of_get (by simpa using h) fun i d v e1 e2 => g (i + 1) d v (by simpa using e1) (by simpa using e2)⟩
theorem RepA.drop : ∀ {ds : List D} {vs : List V} (n : Nat), RepA K H M ds vs → RepA K H M (ds.drop n) (vs.drop n)
  | ds, vs, 0, h => h
  | [], vs, n + 1, h => by
    have z : vs = [] := h
    rw [z] <;> rfl
  | x :: ds, vs, n + 1, h => by
    obtain ⟨v, r, rfl, h1, h2⟩ := h
    exact RepA.drop n h2
theorem RepA.take : ∀ {ds : List D} {vs : List V} (n : Nat), RepA K H M ds vs → RepA K H M (ds.take n) (vs.take n)
  | ds, vs, 0, h => rfl
  | [], vs, n + 1, h => by
    have z : vs = [] := h
    rw [z] <;> rfl
  | x :: ds, vs, n + 1, h => by
    obtain ⟨v, r, rfl, h1, h2⟩ := h
    exact ⟨v, r.take n, rfl, h1, RepA.take n h2⟩
theorem RepA.set {d : D} {v : V} (hd : Rep K H M d v) : ∀ {ds : List D} {vs : List V} (n : Nat), RepA K H M ds vs → RepA K H M (ds.set n d) (vs.set n v)
  | [], vs, n, h => by
    have z : vs = [] := h
    rw [z] <;> rfl
  | x :: ds, vs, 0, h => by
    obtain ⟨w, r, rfl, h1, h2⟩ := h
    exact ⟨v, r, rfl, hd, h2⟩
  | x :: ds, vs, n + 1, h => by
    obtain ⟨w, r, rfl, h1, h2⟩ := h
    exact ⟨w, r.set n v, rfl, h1, RepA.set hd n h2⟩
theorem RepA.dropLast : ∀ {ds : List D} {vs : List V}, RepA K H M ds vs → RepA K H M ds.dropLast vs.dropLast := fun {ds vs} h => by
  rw [List.dropLast_eq_take, List.dropLast_eq_take, h.len]
  exact h.take _
theorem RepA.rev : ∀ {ds : List D} {vs : List V}, RepA K H M ds vs → RepA K H M ds.reverse vs.reverse
  | [], vs, h => by
    have z : vs = [] := h
    rw [z] <;> rfl
  | x :: ds, vs, h => by
    obtain ⟨w, r, rfl, h1, h2⟩ := h
    rw [List.reverse_cons, List.reverse_cons]
    exact (RepA.rev h2).app (.one h1)
theorem RepK.len : ∀ {ds : List (Key × D)} {vs : List (Key × V)}, RepK K H M ds vs → vs.length = ds.length
  | [], vs, h => by
    have e : vs = [] := h
    rw [e] <;> rfl
  | (k, d) :: ds, vs, h => by
    obtain ⟨v, r, e, h1, h2⟩ := h
    rw [e, List.length_cons, List.length_cons, RepK.len h2]
theorem RepK.keys : ∀ {ds : List (Key × D)} {vs : List (Key × V)}, RepK K H M ds vs → vs.map (·.1) = ds.map (·.1)
  | [], vs, h => by
    have e : vs = [] := h
    rw [e] <;> rfl
  | (k, d) :: ds, vs, h => by
    obtain ⟨v, r, e, h1, h2⟩ := h
    rw [e, List.map_cons, List.map_cons, RepK.keys h2]
theorem RepK.vals : ∀ {ds : List (Key × D)} {vs : List (Key × V)}, RepK K H M ds vs → RepA K H M (ds.map (·.2)) (vs.map (·.2))
  | [], vs, h => by
    have e : vs = [] := h
    rw [e] <;> rfl
  | (k, d) :: ds, vs, h => by
    obtain ⟨v, r, e, h1, h2⟩ := h
    rw [e]
    exact ⟨v, _, rfl, h1, RepK.vals h2⟩
/-- a dict's entry -/
def lookD (kds : List (Key × D)) (k : Key) : Option D := (kds.find? fun kv => decide (kv.1 = k)).map (·.2)
def putD (kds : List (Key × D)) (k : Key) (d : D) : List (Key × D) :=
  if (kds.any fun kv => decide (kv.1 = k)) = true then kds.map (fun kv => if kv.1 = k then (kv.1, d) else kv) else kds ++ [(k, d)]
theorem RepK.look : ∀ {ds : List (Key × D)} {vs : List (Key × V)} (k : Key), RepK K H M ds vs → (lookD ds k = none ∧ valV vs k = none) ∨ ∃ d v, lookD ds k = some d ∧ valV vs k = some v ∧ Rep K H M d v
  | [], vs, k, h => by
    have e : vs = [] := h
    subst e
    exact .inl ⟨rfl, rfl⟩
  | (c, d) :: ds, vs, k, h => by
    obtain ⟨v, r, rfl, h1, h2⟩ := h
    by_cases e : c = k
    · subst e
      exact .inr ⟨d, v, by simp [lookD], by simp [valV], h1⟩
    · rcases RepK.look k h2 with ⟨p, q⟩ | ⟨d', v', p, q, z⟩
      · refine .inl ⟨?_, ?_⟩
        · simpa [lookD, e] using p
        · simpa [valV, e] using q
      · refine .inr ⟨d', v', ?_, ?_, z⟩
        · simpa [lookD, e] using p
        · simpa [valV, e] using q
end

/-! ### heaps -/
open Classical in
/-- H without what P holds of -/
noncomputable def cut (H : Hp) (P : Addr → Prop) : Hp := fun b => if P b then none else H b
theorem cut_some {H : Hp} {P : Addr → Prop} {b : Addr} {o : HO} : cut H P b = some o ↔ ¬ P b ∧ H b = some o := by
  unfold cut
  split
  · rename_i h
    constructor
    · intro z; cases z
    · intro z; exact absurd h z.1
  · rename_i h
    constructor
    · intro z; exact ⟨h, z⟩
    · intro z; exact z.2
theorem rd_cut {H : Hp} {P : Addr → Prop} {b : Addr} {u : HO} (h : Rd (cut H P) b u) : Rd H b u := by
  rcases h with h | ⟨o, h⟩
  · exact .inl (cut_some.mp h).2
  · exact .inr ⟨o, (cut_some.mp h).2⟩
theorem Same.rd {H H' : Hp} (s : Same H H') {b : Addr} {u : HO} (h : Rd H b u) : Rd H' b u := by
  rcases h with h | ⟨o, h⟩
  · exact .inl (s _ _ h)
  · exact .inr ⟨o, s _ _ h⟩
theorem Same.tp {H H' : Hp} (s : Same H H') {a : Addr} {vs : List V} (h : TupP H a vs) : TupP H' a vs := let ⟨ob, e, z⟩ := h; ⟨ob, s _ _ e, z⟩
theorem tp_cut {H : Hp} {P : Addr → Prop} {a : Addr} {vs : List V} (h : TupP (cut H P) a vs) : TupP H a vs := let ⟨ob, e, z⟩ := h; ⟨ob, (cut_some.mp e).2, z⟩
theorem same_cut {H H' : Hp} {P P' : Addr → Prop} (s : Same H H') (p : ∀ b, (H b).isSome = true → P' b → P b) : Same (cut H P) (cut H' P') := fun b o h => by
  obtain ⟨h1, h2⟩ := cut_some.mp h
  exact cut_some.mpr ⟨fun z => h1 (p b (by rw [h2] <;> rfl) z), s b o h2⟩
theorem cut_le (H : Hp) (P : Addr → Prop) : Same (cut H P) H := fun b o h => (cut_some.mp h).2
theorem same_upd' {H : Hp} {p : Addr} {o : HO} (h : H p = none) : Same H (upd H p o) := fun b x e => by
  rw [upd_ne (ne_of_none e h)]
  exact e

section
variable {K : PySem.W.Frag} {H H' : Hp} {M M' : Option Hp} {d : D} {v : V}
theorem mv_same (s : Same H H') : Mv K H H' M M := by
  refine ⟨fun a vs h => ?_, fun a vs h => ?_, fun a vs h => Same.tp s h, fun a vs h => s _ _ h, fun a vs h => ?_⟩
  · cases M with
    | none => exact SqL.mono (fun _ _ => Same.rd s) h
    | some B => exact ⟨h.1, s _ _ h.2⟩
  · cases M with
    | none => exact Same.rd s h
    | some B => exact ⟨h.1, s _ _ h.2⟩
  · cases M with
    | none => exact Same.rd s h
    | some B => exact ⟨h.1, s _ _ h.2⟩
theorem mv_any : Mv K H H M none := by
  refine ⟨fun a vs h => ?_, fun a vs h => ?_, fun a vs h => h, fun a vs h => h, fun a vs h => ?_⟩
  · cases M with
    | none => exact h
    | some B => exact .inl (.inl h.2)
  · cases M with
    | none => exact h
    | some B => exact .inl h.2
  · cases M with
    | none => exact h
    | some B => exact .inl h.2
theorem Rep.same (s : Same H H') (h : Rep K H M d v) : Rep K H' M d v := h.mv (mv_same s)
theorem RepA.same {ds : List D} {vs : List V} (s : Same H H') (h : RepA K H M ds vs) : RepA K H' M ds vs := h.mv (mv_same s)
theorem RepK.same {ds : List (Key × D)} {vs : List (Key × V)} (s : Same H H') (h : RepK K H M ds vs) : RepK K H' M ds vs := h.mv (mv_same s)
theorem Rep.any (h : Rep K H M d v) : Rep K H none d v := h.mv mv_any
theorem RepA.any {ds : List D} {vs : List V} (h : RepA K H M ds vs) : RepA K H none ds vs := h.mv mv_any
theorem RepK.any {ds : List (Key × D)} {vs : List (Key × V)} (h : RepK K H M ds vs) : RepK K H none ds vs := h.mv mv_any
end

/-! ### slots -/
/-- an exception of the class with this name; its fields -/
structure DX where
  cls : Str
  fs : List (Str × V)
/-- nothing; what may be read; what is new, too; an own list or dict; a caught exception, its place and its dict's -/
inductive Sl where
  | un | sh (d : D) | fr (d : D) | ow (d : D) | ex (x : DX) (a d : Addr)
abbrev DSt := List Sl
/-- a slot's own list or dict stands at a -/
def OwnA (δ : DSt) (σ : St) (a : Addr) : Prop := ∃ (i : Nat) (d : D), δ[i]? = some (Sl.ow d) ∧ σ[i]? = some (some (V.ref a))
def OwnRep (K : PySem.W.Frag) (H Z : Hp) (a : Addr) : D → Prop
  | .lst ds => ∃ vs, H a = some (.lst vs) ∧ RepA K Z none ds vs
  | .dic kds => ∃ kvs, H a = some (.dK kvs) ∧ RepK K Z none kds kvs
  | .dtp kvs => H a = some (.dT (kvV kvs))
  | _ => False
def SlOk (K : PySem.W.Frag) (B H Z : Hp) : Sl → Option (Option V) → Prop
  | .un, _ => True
  | .sh d, x => ∃ v, x = some (some v) ∧ Rep K Z none d v
  | .fr d, x => ∃ v, x = some (some v) ∧ Rep K Z (some B) d v
  | .ow d, x => ∃ a, x = some (some (V.ref a)) ∧ B a = none ∧ OwnRep K H Z a d
  | .ex e a d, x => x = some (some (V.ref a)) ∧ Z d = some (.xd e.fs)
/-- a list, a dict -/
def IsLD : HO → Prop
  | .lst _ => True
  | .dK _ => True
  | .dT _ => True
  | _ => False
/-- the heap at the def's entry; what is hidden besides (lists that are being made) -/
structure Bs where
  hp : Hp
  hid : Addr → Prop
def Hid (B : Bs) (δ : DSt) (σ : St) (a : Addr) : Prop := OwnA δ σ a ∨ B.hid a
/-- the slots as data -/
structure DRel (K : PySem.W.Frag) (B : Bs) (H : Hp) (δ : DSt) (σ : St) : Prop where
  len : δ.length = σ.length
  base : Same B.hp H
  hide : ∀ a, B.hid a → B.hp a = none ∧ ∃ o, H a = some o ∧ (∀ xs, o ≠ .tup xs) ∧ (∀ u w, o ≠ .frz u w) ∧ (∀ fs, o ≠ .xd fs) ∧ IsLD o
  apart : ∀ a, OwnA δ σ a → ¬ B.hid a
  inj : ∀ (i j : Nat) (d e : D) (a : Addr), δ[i]? = some (Sl.ow d) → δ[j]? = some (Sl.ow e) → σ[i]? = some (some (V.ref a)) → σ[j]? = some (some (V.ref a)) → i = j
  sl : ∀ (i : Nat) (s : Sl), δ[i]? = some s → SlOk K B.hp H (cut H (Hid B δ σ)) s σ[i]?
/-- what isn't owned -/
noncomputable abbrev Frz (B : Bs) (H : Hp) (δ : DSt) (σ : St) : Hp := cut H (Hid B δ σ)

section
variable {K : PySem.W.Frag} {B : Bs} {B0 H H' : Hp} {δ : DSt} {σ : St} {Z Z' : Hp}
theorem OwnRep.same {a : Addr} {d : D} (s1 : ∀ o, H a = some o → H' a = some o) (s2 : Same Z Z') (h : OwnRep K H Z a d) : OwnRep K H' Z' a d := by
  cases d with
  | lst ds =>
    obtain ⟨vs, e, r⟩ := h
    exact ⟨vs, s1 _ e, RepA.same s2 r⟩
  | dic kds =>
    obtain ⟨vs, e, r⟩ := h
    exact ⟨vs, s1 _ e, RepK.same s2 r⟩
  | dtp kvs => exact s1 _ h
  | _ => exact h.elim
theorem OwnRep.there {a : Addr} {d : D} (h : OwnRep K H Z a d) : ∃ o, H a = some o ∧ (∀ xs, o ≠ .tup xs) ∧ (∀ u w, o ≠ .frz u w) ∧ (∀ fs, o ≠ .xd fs) ∧ IsLD o := by
  cases d with
  | lst ds =>
    obtain ⟨vs, e, r⟩ := h
    exact ⟨_, e, (fun xs z => by cases z), (fun u w z => by cases z), (fun fs z => by cases z), trivial⟩
  | dic kds =>
    obtain ⟨vs, e, r⟩ := h
    exact ⟨_, e, (fun xs z => by cases z), (fun u w z => by cases z), (fun fs z => by cases z), trivial⟩
  | dtp kvs => exact ⟨_, h, (fun xs z => by cases z), (fun u w z => by cases z), (fun fs z => by cases z), trivial⟩
  | _ => exact h.elim
theorem SlOk.same {s : Sl} {x : Option (Option V)} (s1 : Same H H') (s2 : Same Z Z') (h : SlOk K B0 H Z s x) : SlOk K B0 H' Z' s x := by
  cases s with
  | un => trivial
  | sh d =>
    obtain ⟨v, e, r⟩ := h
    exact ⟨v, e, Rep.same s2 r⟩
  | fr d =>
    obtain ⟨v, e, r⟩ := h
    exact ⟨v, e, Rep.same s2 r⟩
  | ow d =>
    obtain ⟨a, e, n, r⟩ := h
    exact ⟨a, e, n, r.same (fun o => s1 a o) s2⟩
  | ex y a d =>
    obtain ⟨e, r⟩ := h
    exact ⟨e, s2 _ _ r⟩
theorem DRel.own (r : DRel K B H δ σ) {a : Addr} (h : Hid B δ σ a) : B.hp a = none ∧ ∃ o, H a = some o ∧ (∀ xs, o ≠ .tup xs) ∧ (∀ u w, o ≠ .frz u w) ∧ (∀ fs, o ≠ .xd fs) ∧ IsLD o := by
  rcases h with ⟨i, d, e1, e2⟩ | h
  · obtain ⟨a', e3, n, q⟩ := r.sl i _ e1
    rw [e2] at e3
    cases e3
    exact ⟨n, q.there⟩
  · exact r.hide a h
theorem DRel.frz (r : DRel K B H δ σ) : Same B.hp (Frz B H δ σ) := fun b o h => by
  refine cut_some.mpr ⟨fun z => ?_, r.base b o h⟩
  rw [(r.own z).1] at h
  cases h
/-- new objects -/
theorem DRel.ext (r : DRel K B H δ σ) (s : Same H H') : DRel K B H' δ σ :=
  ⟨r.len, r.base.trans s, fun a ha => let ⟨z1, o, z2, z3⟩ := r.hide a ha; ⟨z1, o, s _ _ z2, z3⟩, r.apart, r.inj, fun i s' e => (r.sl i s' e).same s (same_cut s fun _ _ z => z)⟩
theorem DRel.frz_ext (s : Same H H') : Same (Frz B H δ σ) (Frz B H' δ σ) := same_cut s fun _ _ z => z
/-- a new address is nobody's own -/
theorem DRel.notOwn (r : DRel K B H δ σ) {a : Addr} (h : H a = none) : ¬ Hid B δ σ a := fun z => by
  obtain ⟨_, o, e, _⟩ := r.own z
  rw [h] at e
  cases e
theorem DRel.noTup (r : DRel K B H δ σ) (s : Same H H') {a : Addr} {vs : List V} (h : TupP H' a vs) : ¬ Hid B δ σ a := fun z => by
  obtain ⟨_, o, z1, z2, z3⟩ := r.own z
  have z4 := s _ _ z1
  obtain ⟨u, h, _⟩ := h
  rw [h] at z4
  cases z4
  exact z3.1 _ _ rfl
theorem DRel.noKt (r : DRel K B H δ σ) (s : Same H H') {a : Addr} {vs : List V} (h : H' a = some (.tup vs)) : ¬ Hid B δ σ a := fun z => by
  obtain ⟨_, o, z1, z2, z3⟩ := r.own z
  have z4 := s _ _ z1
  rw [h] at z4
  cases z4
  exact z2 _ rfl
/-- an exception's dict is nobody's own -/
theorem DRel.noXd (r : DRel K B H δ σ) {a : Addr} {fs : List (Str × V)} (h : H a = some (.xd fs)) : ¬ Hid B δ σ a := fun z => by
  obtain ⟨_, o, z1, z2, z3⟩ := r.own z
  rw [h] at z1
  cases z1
  exact z3.2.1 _ rfl
end
end DL

set_option Elab.async false
set_option linter.all false
set_option maxRecDepth 100000
namespace DL
open PySem PySem.Spec PyProof.Rows L2

/-! ### slots, read and written -/
def getS : DSt → Nat → Sl
  | [], _ => .un
  | s :: _, 0 => s
  | _ :: r, i + 1 => getS r i
def setS : DSt → Nat → Sl → DSt
  | [], _, _ => []
  | _ :: r, 0, x => x :: r
  | s :: r, i + 1, x => s :: setS r i x
theorem getS_at : ∀ (δ : DSt) (i : Nat), getS δ i = (δ[i]?).getD .un
  | [], i => rfl
  | s :: r, 0 => rfl
  | s :: r, i + 1 => by
    show getS r i = _
    rw [getS_at r i, List.getElem?_cons_succ]
theorem setS_eq : ∀ (δ : DSt) (i : Nat) (x : Sl), setS δ i x = δ.set i x
  | [], i, x => rfl
  | s :: r, 0, x => rfl
  | s :: r, i + 1, x => by
    show s :: setS r i x = _
    rw [setS_eq r i x] <;> rfl
theorem getS_some {δ : DSt} {i : Nat} {s : Sl} (h : getS δ i = s) (n : s ≠ .un) : δ[i]? = some s := by
  rw [getS_at] at h
  cases e : δ[i]? with
  | none =>
    rw [e] at h
    exact absurd h.symm n
  | some x =>
    rw [e] at h
    exact congrArg some h
def natIn (k : Nat) : List Nat → Bool
  | [] => false
  | i :: r => match Nat.beq k i with
    | true => true
    | false => natIn k r
def fgt (is : List Nat) : Nat → DSt → DSt
  | _, [] => []
  | k, s :: r => (match natIn k is with
    | true => .un
    | false => s) :: fgt is (k + 1) r
def forget (is : List Nat) (δ : DSt) : DSt := fgt is 0 δ
theorem fgt_nil : ∀ (k : Nat) (δ : DSt), fgt [] k δ = δ
  | _, [] => rfl
  | k, s :: r => by
    show s :: fgt [] (k + 1) r = s :: r
    rw [fgt_nil (k + 1) r]
theorem forget_nil (δ : DSt) : forget [] δ = δ := fgt_nil 0 δ
theorem natIn_cons (k i : Nat) (r : List Nat) : natIn k (i :: r) = (decide (k = i) || natIn k r) := by
  by_cases e : k = i
  · subst e
    show (match Nat.beq k k with | true => true | false => natIn k r) = _
    rw [Nat.beq_refl, decide_eq_true rfl] <;> rfl
  · have : Nat.beq k i = false := by
      cases q : Nat.beq k i with
      | true => exact absurd (Nat.eq_of_beq_eq_true q) e
      | false => rfl
    show (match Nat.beq k i with | true => true | false => natIn k r) = _
    rw [this, decide_eq_false e] <;> rfl
theorem fgt_cons (i : Nat) (is : List Nat) : ∀ (k : Nat) (δ : DSt), fgt (i :: is) k δ = if k ≤ i then setS (fgt is k δ) (i - k) .un else fgt is k δ
  | k, [] => by
    split <;> rfl
  | k, s :: r => by
    show (match natIn k (i :: is) with | true => Sl.un | false => s) :: fgt (i :: is) (k + 1) r = if k ≤ i then setS ((match natIn k is with | true => Sl.un | false => s) :: fgt is (k + 1) r) (i - k) .un else (match natIn k is with | true => Sl.un | false => s) :: fgt is (k + 1) r
    rw [natIn_cons, fgt_cons i is (k + 1) r]
    by_cases e : k = i
    · subst e
      rw [if_neg (by omega), if_pos (Nat.le_refl k), Nat.sub_self, decide_eq_true rfl] <;> rfl
    · rw [decide_eq_false e, Bool.false_or]
      by_cases c : k ≤ i
      · rw [if_pos c, if_pos (by omega), show i - k = i - (k + 1) + 1 by omega] <;> rfl
      · rw [if_neg c, if_neg (by omega)]
theorem forget_cons (i : Nat) (is : List Nat) (δ : DSt) : forget (i :: is) δ = setS (forget is δ) i .un := by
  show fgt (i :: is) 0 δ = _
  rw [fgt_cons, if_pos (Nat.zero_le _)] <;> rfl

/-! ### exceptions -/
def XRep (K : PySem.W.Frag) (H : Hp) (cls : Value) (dx : Option Addr) (x : DX) : Prop := cls = .ref (He.ga K x.cls) ∧ ∃ a, dx = some a ∧ H a = some (.xd x.fs)

/-! ### what an expression, a test, an argument list, a statement does, over data -/
/-- a value that came: frozen; frozen and new since the def's entry; a new list of its own; a slot's own list -/
inductive Tg where
  | fz | fr | nw | bo
abbrev XQ := DX → Prop
abbrev ET := XQ → DSt → (Tg → D → Prop) → Prop
abbrev BT := XQ → DSt → (Bool → Prop) → Prop
abbrev AT := XQ → DSt → (List D → Prop) → Prop
structure En where
  nx : DSt → Prop
  rt : D → Prop
  bk : DSt → Prop := fun _ => False
  ct : DSt → Prop := fun _ => False
  xe : DX → DSt → Prop := fun _ _ => False
  /-- what is returned may be lent only -/
  lent : Prop := False
abbrev ST := En → DSt → Prop
def BRep (K : PySem.W.Frag) (H Z : Hp) : D → V → Prop
  | .lst ds, v => ∃ a vs, v = .ref a ∧ SqL K H a vs ∧ RepA K Z none ds vs
  | .dic kds, v => ∃ a kvs, v = .ref a ∧ Rd H a (.dK kvs) ∧ RepK K Z none kds kvs
  | .dtp kvs, v => ∃ a, v = .ref a ∧ Rd H a (.dT (kvV kvs))
  | d, v => Rep K Z none d v
/-- what is within is without lists and dicts -/
def D.immIn : D → Bool
  | .lst ds => immA ds
  | .dic kds => immA (kds.map (·.2))
  | .dtp _ => true
  | d => d.imm
/-- the value that comes: the def's entry B, ahead H, behind H' -/
def Res (K : PySem.W.Frag) (B : Bs) (H H' : Hp) (δ : DSt) (σ : St) : Tg → D → V → Prop
  | .fz, d, v => Rep K (Frz B H' δ σ) none d v
  | .fr, d, v => Rep K (Frz B H' δ σ) (some B.hp) d v
  | .nw, d, v => ∃ a, v = .ref a ∧ H a = none ∧ OwnRep K H' (cut H' fun b => Hid B δ σ b ∨ b = a) a d
  | .bo, d, v => ∃ a, v = .ref a ∧ B.hp a = none ∧ OwnRep K H' (Frz B H' δ σ) a d ∧ OwnA δ σ a
def Lift (K : PySem.W.Frag) (W : WX) (t : ET) : TE := fun σ H Q => ∃ B δ e q, DRel K B H δ σ ∧ t e δ q ∧
  (∀ v H' g d, Same H H' → Res K B H H' δ σ g d v → q g d → Q v H') ∧ ∀ cls dx H' x, Same H H' → XRep K H' cls dx x → e x → W cls dx σ H'
/-- arguments that are lent -/
def BRepA (K : PySem.W.Frag) (H Z : Hp) : List D → List V → Prop
  | [], vs => vs = []
  | d :: ds, vs => ∃ v r, vs = v :: r ∧ BRep K H Z d v ∧ BRepA K H Z ds r
def LiftA (K : PySem.W.Frag) (W : WX) (t : AT) : TA := fun σ H Q => ∃ B δ e q, DRel K B H δ σ ∧ t e δ q ∧
  (∀ vs H' ds, Same H H' → BRepA K H' (Frz B H' δ σ) ds vs → q ds → Q vs H') ∧ ∀ cls dx H' x, Same H H' → XRep K H' cls dx x → e x → W cls dx σ H'
/-- items that are put into something; LiftIF: all new since the def's entry -/
def LiftI (K : PySem.W.Frag) (W : WX) (t : AT) : TA := fun σ H Q => ∃ B δ e q, DRel K B H δ σ ∧ t e δ q ∧
  (∀ vs H' ds, Same H H' → RepA K (Frz B H' δ σ) none ds vs → q ds → Q vs H') ∧ ∀ cls dx H' x, Same H H' → XRep K H' cls dx x → e x → W cls dx σ H'
def LiftIF (K : PySem.W.Frag) (W : WX) (t : AT) : TA := fun σ H Q => ∃ B δ e q, DRel K B H δ σ ∧ t e δ q ∧
  (∀ vs H' ds, Same H H' → RepA K (Frz B H' δ σ) (some B.hp) ds vs → q ds → Q vs H') ∧ ∀ cls dx H' x, Same H H' → XRep K H' cls dx x → e x → W cls dx σ H'
def LiftT (K : PySem.W.Frag) (W : WX) (t : BT) : TT := fun σ H Q => ∃ B δ e q, DRel K B H δ σ ∧ t e δ q ∧
  (∀ b H', Same H H' → q b → Q b H') ∧ ∀ cls dx H' x, Same H H' → XRep K H' cls dx x → e x → W cls dx σ H'
/-- a list or a dict -/
def D.top : D → Bool
  | .lst _ => true
  | .dic _ => true
  | .dtp _ => true
  | _ => false
/-- what is returned is lent: what is within may be read; a list or a dict at the top is new -/
def LentR (K : PySem.W.Frag) (B H' : Hp) (d : D) (v : V) : Prop := Rep K H' none d v ∧ (d.top = true → ∃ a, v = .ref a ∧ B a = none ∧ OwnRep K H' (cut H' fun b => b = a) a d)
def LiftS (K : PySem.W.Frag) (W : WX) (t : ST) : TS := fun N σ H => ∃ B δ E, DRel K B H δ σ ∧ t E δ ∧
  (∀ δ' σ' H', DRel K B H' δ' σ' → Same (Frz B H δ σ) (Frz B H' δ' σ') → E.nx δ' → N.nx σ' H') ∧
  (∀ v H' d, Same B.hp H' → (Rep K H' (some B.hp) d v ∨ E.lent ∧ LentR K B.hp H' d v) → E.rt d → N.rt v H') ∧
  (∀ δ' σ' H', DRel K B H' δ' σ' → Same (Frz B H δ σ) (Frz B H' δ' σ') → E.bk δ' → N.bk σ' H') ∧
  (∀ δ' σ' H', DRel K B H' δ' σ' → Same (Frz B H δ σ) (Frz B H' δ' σ') → E.ct δ' → N.ct σ' H') ∧
  ∀ cls dx δ' σ' H' x, DRel K B H' δ' σ' → Same (Frz B H δ σ) (Frz B H' δ' σ') → XRep K H' cls dx x → E.xe x δ' → W cls dx σ' H'

abbrev DE (X : Cx) (W : WX) (e : Expr) (t : ET) : Prop := PE X e (Lift X.K W t)
abbrev DT (X : Cx) (W : WX) (e : Expr) (t : BT) : Prop := PT X e (LiftT X.K W t)
abbrev DA (X : Cx) (W : WX) (es : List Expr) (t : AT) : Prop := PA X es (LiftA X.K W t)
abbrev DI (X : Cx) (W : WX) (es : List Expr) (t : AT) : Prop := PA X es (LiftI X.K W t)
abbrev DIF (X : Cx) (W : WX) (es : List Expr) (t : AT) : Prop := PA X es (LiftIF X.K W t)
abbrev DS (X : Cx) (W : WX) (st : Stmt) (t : ST) : Prop := PS X st (LiftS X.K W t)
abbrev DSs (X : Cx) (W : WX) (sts : List Stmt) (t : ST) : Prop := PSs X sts (LiftS X.K W t)

theorem PE.imp {X : Cx} {e : Expr} {t t' : TE} (h : PE X e t) (i : ∀ σ H Q, t' σ H Q → t σ H Q) : PE X e t' := ⟨fun pins s σ H Q I w => h.run pins s σ H Q I (i σ H Q w)⟩
theorem PT.imp {X : Cx} {e : Expr} {t t' : TT} (h : PT X e t) (i : ∀ σ H Q, t' σ H Q → t σ H Q) : PT X e t' := ⟨fun pins s σ H Q I w => h.run pins s σ H Q I (i σ H Q w)⟩
theorem PW.imp {X : Cx} {e : Expr} {t t' : TT} (h : PW X e t) (i : ∀ σ H Q, t' σ H Q → t σ H Q) : PW X e t' := ⟨fun wh pins s σ H Q I w => h.run wh pins s σ H Q I (i σ H Q w)⟩
theorem PA.imp {X : Cx} {es : List Expr} {t t' : TA} (h : PA X es t) (i : ∀ σ H Q, t' σ H Q → t σ H Q) : PA X es t' := ⟨fun pos pins s σ H Q I w => h.run pos pins s σ H Q I (i σ H Q w)⟩
theorem PS.imp {X : Cx} {st : Stmt} {t t' : TS} (h : PS X st t) (i : ∀ D σ H, t' D σ H → t D σ H) : PS X st t' := ⟨fun pins s σ H D I w => h.run pins s σ H D I (i D σ H w)⟩
theorem PSs.imp {X : Cx} {st : List Stmt} {t t' : TS} (h : PSs X st t) (i : ∀ D σ H, t' D σ H → t D σ H) : PSs X st t' := ⟨fun pins s σ H D I w => h.run pins s σ H D I (i D σ H w)⟩

/-! ### representations, weakened -/
section
variable {K : PySem.W.Frag} {B : Bs} {H H' Z Z' : Hp} {δ : DSt} {σ : St} {d : D} {v : V}
theorem BRep.same (s1 : Same H H') (s2 : Same Z Z') (h : BRep K H Z d v) : BRep K H' Z' d v := by
  cases d with
  | lst ds =>
    obtain ⟨a, vs, e, r, q⟩ := h
    exact ⟨a, vs, e, SqL.mono (fun _ _ => Same.rd s1) r, RepA.same s2 q⟩
  | dic ds =>
    obtain ⟨a, vs, e, r, q⟩ := h
    exact ⟨a, vs, e, Same.rd s1 r, RepK.same s2 q⟩
  | dtp kvs =>
    obtain ⟨a, e, r⟩ := h
    exact ⟨a, e, Same.rd s1 r⟩
  | ktp ks => exact Rep.same (K := K) (M := none) s2 (d := .ktp ks) h
  | non => exact h
  | bl b => exact h
  | int i => exact h
  | str s => exact h
  | tup ds => exact Rep.same s2 (d := .tup ds) h
theorem Rep.toB (s : Same Z H) (h : Rep K Z none d v) : BRep K H Z d v := by
  cases d with
  | lst ds =>
    obtain ⟨a, vs, e, r, q⟩ := h
    exact ⟨a, vs, e, SqL.mono (fun _ _ => Same.rd s) r, q⟩
  | dic ds =>
    obtain ⟨a, vs, e, r, q⟩ := h
    exact ⟨a, vs, e, Same.rd s r, q⟩
  | dtp kvs =>
    obtain ⟨a, e, r⟩ := h
    exact ⟨a, e, Same.rd s r⟩
  | ktp ks => exact h
  | non => exact h
  | bl b => exact h
  | int i => exact h
  | str s => exact h
  | tup ds => exact h
theorem BRep.full (s : Same Z H) (h : BRep K H Z d v) : Rep K H none d v := by
  cases d with
  | lst ds =>
    obtain ⟨a, vs, e, r, q⟩ := h
    exact ⟨a, vs, e, r, RepA.same s q⟩
  | dic ds =>
    obtain ⟨a, vs, e, r, q⟩ := h
    exact ⟨a, vs, e, r, RepK.same s q⟩
  | dtp kvs =>
    obtain ⟨a, e, r⟩ := h
    exact ⟨a, e, r⟩
  | ktp ks => exact Rep.same (K := K) (M := none) s (d := .ktp ks) h
  | non => exact h
  | bl b => exact h
  | int i => exact h
  | str s => exact h
  | tup ds => exact Rep.same s (d := .tup ds) h
theorem OwnRep.toB {a : Addr} (h : OwnRep K H Z a d) : BRep K H Z d (.ref a) := by
  cases d with
  | lst ds =>
    obtain ⟨vs, e, r⟩ := h
    exact ⟨a, vs, rfl, .inl (.inl e), r⟩
  | dic ds =>
    obtain ⟨vs, e, r⟩ := h
    exact ⟨a, vs, rfl, .inl e, r⟩
  | dtp kvs => exact ⟨a, rfl, .inl h⟩
  | _ => exact h.elim
theorem RepK.imm {M M' : Option Hp} : ∀ (ds : List (Key × D)) (kvs : List (Key × V)), immA (ds.map (·.2)) = true → RepK K H M ds kvs → RepK K H M' ds kvs
  | [], kvs, _, z => z
  | (k, d) :: ds, kvs, i, z => by
    obtain ⟨v, s, e, z1, z2⟩ := z
    have i' : d.imm = true ∧ immA (ds.map (·.2)) = true := by simpa [immA] using i
    exact ⟨v, s, e, Rep.imm d v i'.1 z1, RepK.imm ds s i'.2 z2⟩
/-- an own list that stands in Z -/
theorem OwnRep.toN {a : Addr} (h : OwnRep K H Z a d) (e : ∀ o, H a = some o → Z a = some o) : Rep K Z none d (.ref a) := by
  cases d with
  | lst ds =>
    obtain ⟨vs, q, r⟩ := h
    exact ⟨a, vs, rfl, .inl (.inl (e _ q)), r⟩
  | dic ds =>
    obtain ⟨kvs, q, r⟩ := h
    exact ⟨a, kvs, rfl, .inl (e _ q), r⟩
  | dtp kvs => exact ⟨a, rfl, .inl (e _ h)⟩
  | _ => exact h.elim
theorem OwnRep.toR {a : Addr} (h : OwnRep K H Z a d) (hB : B.hp a = none) (e : ∀ o, H a = some o → Z a = some o) (hI : d.immIn = true) : Rep K Z (some B.hp) d (.ref a) := by
  cases d with
  | lst ds =>
    obtain ⟨vs, q, r⟩ := h
    exact ⟨a, vs, rfl, ⟨hB, e _ q⟩, RepA.imm ds vs hI r⟩
  | dic ds =>
    obtain ⟨kvs, q, r⟩ := h
    exact ⟨a, kvs, rfl, ⟨hB, e _ q⟩, RepK.imm ds kvs hI r⟩
  | dtp kvs => exact ⟨a, rfl, ⟨hB, e _ h⟩⟩
  | _ => exact h.elim
theorem own_cut {a : Addr} (hn : ¬ Hid B δ σ a) : Same (cut H' fun b => Hid B δ σ b ∨ b = a) (Frz B H' δ σ) ∧ ∀ o, H' a = some o → (Frz B H' δ σ) a = some o :=
  ⟨same_cut (fun _ _ z => z) fun b _ z => .inl z, fun o e => cut_some.mpr ⟨hn, e⟩⟩
theorem nw_any {a : Addr} (hn : ¬ Hid B δ σ a) (h : OwnRep K H' (cut H' fun b => Hid B δ σ b ∨ b = a) a d) : Rep K (Frz B H' δ σ) none d (.ref a) :=
  OwnRep.toN (H := H') (h.same (H' := H') (fun o e => e) (own_cut hn).1) (own_cut hn).2
theorem nw_fr {a : Addr} (hB : B.hp a = none) (hi : d.immIn = true) (hn : ¬ Hid B δ σ a) (h : OwnRep K H' (cut H' fun b => Hid B δ σ b ∨ b = a) a d) : Rep K (Frz B H' δ σ) (some B.hp) d (.ref a) :=
  OwnRep.toR (H := H') (h.same (H' := H') (fun o e => e) (own_cut hn).1) hB (own_cut hn).2 hi
/-- whatever came may be read -/
theorem Res.toB {g : Tg} (r : DRel K B H δ σ) (h : Res K B H H' δ σ g d v) : BRep K H' (Frz B H' δ σ) d v := by
  cases g with
  | fz => exact Rep.toB (cut_le _ _) h
  | fr => exact Rep.toB (cut_le _ _) (Rep.any h)
  | nw =>
    obtain ⟨a, rfl, n, o⟩ := h
    exact Rep.toB (cut_le _ _) (nw_any (r.notOwn n) o)
  | bo =>
    obtain ⟨a, rfl, n, o, _⟩ := h
    exact o.toB
/-- what came is put into something: frozen -/
theorem Res.toZ {g : Tg} (r : DRel K B H δ σ) (hg : g ≠ .bo) (h : Res K B H H' δ σ g d v) : Rep K (Frz B H' δ σ) none d v := by
  cases g with
  | fz => exact h
  | fr => exact Rep.any h
  | nw =>
    obtain ⟨a, rfl, n, o⟩ := h
    exact nw_any (r.notOwn n) o
  | bo => exact absurd rfl hg
theorem DRel.noB (r : DRel K B H δ σ) {a : Addr} (h : H a = none) : B.hp a = none := by
  cases e : B.hp a with
  | none => rfl
  | some o =>
    rw [r.base _ _ e] at h
    cases h
/-- .. all new since the def's entry -/
def newTg : Tg → D → Bool
  | .fz, d => d.imm
  | .fr, _ => true
  | .nw, d => d.immIn
  | .bo, _ => false
theorem Res.toF {g : Tg} (r : DRel K B H δ σ) (hg : newTg g d = true) (h : Res K B H H' δ σ g d v) : Rep K (Frz B H' δ σ) (some B.hp) d v := by
  cases g with
  | fz => exact Rep.imm d v hg h
  | fr => exact h
  | nw =>
    obtain ⟨a, rfl, n, o⟩ := h
    exact nw_fr (r.noB n) hg (r.notOwn n) o
  | bo => exact nomatch hg
end
end DL

set_option Elab.async false
set_option linter.all false
set_option maxRecDepth 100000
namespace DL
open PySem PySem.Spec PyProof.Rows L2

section
variable {K : PySem.W.Frag} {B : Bs} {H H' H0 Z Z' : Hp} {δ : DSt} {σ : St} {d : D} {v : V} {g : Tg}
theorem Res.back (s : Same H0 H) (h : Res K B H H' δ σ g d v) : Res K B H0 H' δ σ g d v := by
  cases g with
  | fz => exact h
  | fr => exact h
  | nw =>
    obtain ⟨a, e, n, o⟩ := h
    exact ⟨a, e, s.free n, o⟩
  | bo => exact h
/-- a value without a heap -/
def SRep : D → V → Prop
  | .non, v => v = .non
  | .bl b, v => v = .bl b
  | .int i, v => v = .int i
  | .str s, v => v = .str s
  | _, _ => False
theorem SRep.rep {M : Option Hp} (h : SRep d v) : Rep K H M d v := by
  cases d with
  | non => exact h
  | bl b => exact h
  | int i => exact h
  | str s => exact h
  | lst _ => exact h.elim
  | tup _ => exact h.elim
  | dic _ => exact h.elim
  | ktp _ => exact h.elim
  | dtp _ => exact h.elim
theorem SRep.res (h : SRep d v) : Res K B H H' δ σ .fz d v := SRep.rep h
theorem BRep.int {i : Int} (h : BRep K H Z (.int i) v) : v = .int i := h
theorem BRep.str {s : Str} (h : BRep K H Z (.str s) v) : v = .str s := h
theorem BRep.bl {b : Bool} (h : BRep K H Z (.bl b) v) : v = .bl b := h
end

section
variable {X : Cx} {W : WX} {a b c e : Expr} {ta tb tc : ET} {pos : Pos}

/-! ### constants and names -/
def eC (d : D) : ET := fun _ _ q => q .fz d
theorem de_int {i j pos} : DE X W (.Constant (.int i) j pos) (eC (.int i)) := PE.imp pe_int fun σ H Q ⟨B, δ, e, q, r, h, ok, bad⟩ => ok (.int i) H .fz (.int i) (Same.refl H) rfl h
theorem de_bl {i j pos} : DE X W (.Constant (.bool i) j pos) (eC (.bl i)) := PE.imp pe_bl fun σ H Q ⟨B, δ, e, q, r, h, ok, bad⟩ => ok (.bl i) H .fz (.bl i) (Same.refl H) rfl h
theorem de_non {j pos} : DE X W (.Constant .none j pos) (eC .non) := PE.imp pe_non fun σ H Q ⟨B, δ, e, q, r, h, ok, bad⟩ => ok .non H .fz .non (Same.refl H) rfl h
theorem de_str {i j pos} : DE X W (.Constant (.str i) j pos) (eC (.str i)) := PE.imp pe_str fun σ H Q ⟨B, δ, e, q, r, h, ok, bad⟩ => ok (.str i) H .fz (.str i) (Same.refl H) rfl h
/-- a name of the def's own -/
def eVar (i : Nat) : ET := fun _ δ q => match getS δ i with
  | .un => False
  | .sh d => q .fz d
  | .fr d => q .fr d
  | .ow d => q .bo d
  | .ex _ _ _ => False
theorem de_var (i : Nat) {x : Str} {pos : Pos} (hN : X.N[i]? = some x := by rfl) (hv : Vis X.env.scope x := by first | exact Or.inl rfl | exact Or.inr (Or.inl rfl) | exact Or.inr (Or.inr rfl)) (hd : (x == ("__debug__" : Str)) = false := by decide)
    (hcd : (x == ("__classdict__" : Str)) = false := by decide) : DE X W (.Name x pos) (eVar i) := PE.imp (pv i hN hv hd hcd) fun σ H Q ⟨B, δ, e, q, r, h, ok, bad⟩ => by
  unfold eVar at h
  cases hs : getS δ i with
  | un =>
    rw [hs] at h
    exact h.elim
  | ex _ _ _ =>
    rw [hs] at h
    exact h.elim
  | sh d =>
    rw [hs] at h
    obtain ⟨v, e1, e2⟩ := r.sl i _ (getS_some hs (fun z => nomatch z))
    exact ⟨v, e1, ok v H .fz d (Same.refl H) e2 h⟩
  | fr d =>
    rw [hs] at h
    obtain ⟨v, e1, e2⟩ := r.sl i _ (getS_some hs (fun z => nomatch z))
    exact ⟨v, e1, ok v H .fr d (Same.refl H) e2 h⟩
  | ow d =>
    rw [hs] at h
    obtain ⟨v, e1, n, e2⟩ := r.sl i _ (getS_some hs (fun z => nomatch z))
    exact ⟨_, e1, ok _ H .bo d (Same.refl H) ⟨v, rfl, n, e2, i, d, getS_some hs (fun z => nomatch z), e1⟩ h⟩
/-- a module's int or text -/
theorem de_gint {x : Str} {i : Int} {t : Tok} (hg : Gl X x) (hm : X.mg x = some (.int i t)) (hd : (x == ("__debug__" : Str)) = false := by decide) : DE X W (.Name x pos) (eC (.int i)) :=
  PE.imp (pe_glob (v := .int i) hg hm ⟨_, rfl⟩ hd) fun σ H Q ⟨B, δ, e, q, r, h, ok, bad⟩ => ok (.int i) H .fz (.int i) (Same.refl H) rfl h
theorem de_gstr {x : Str} {i : Str} {t : Tok} (hg : Gl X x) (hm : X.mg x = some (.str i t)) (hd : (x == ("__debug__" : Str)) = false := by decide) : DE X W (.Name x pos) (eC (.str i)) :=
  PE.imp (pe_glob (v := .str i) hg hm ⟨_, rfl⟩ hd) fun σ H Q ⟨B, δ, e, q, r, h, ok, bad⟩ => ok (.str i) H .fz (.str i) (Same.refl H) rfl h

/-! ### two operands -/
abbrev F2 := D → D → (Tg → D → Prop) → Prop
def eOp (f : F2) (ta tb : ET) : ET := fun e δ q => ta e δ fun _ x => tb e δ fun _ y => f x y q
/-- a rule on values keeps f -/
def Snd2 (K : PySem.W.Frag) (r : R2) (f : F2) : Prop := ∀ (B : Bs) (H : Hp) (δ : DSt) (σ : St) (x y : V) (d e : D) (q : Tg → D → Prop) (Q : VK), DRel K B H δ σ → BRep K H (Frz B H δ σ) d x → BRep K H (Frz B H δ σ) e y → f d e q →
  (∀ v H' g c, Same H H' → Res K B H H' δ σ g c v → q g c → Q v H') → r x y H Q
theorem lift2 {r : R2} {f : F2} (hs : Snd2 X.K r f) : ∀ σ H Q, Lift X.K W (eOp f ta tb) σ H Q → tOp r (Lift X.K W ta) (Lift X.K W tb) σ H Q := by
  rintro σ H Q ⟨B, δ, e, q, r0, h, ok, bad⟩
  refine ⟨B, δ, e, _, r0, h, fun v1 H1 g1 d1 s1 R1 h1 => ?_, bad⟩
  refine ⟨B, δ, e, _, r0.ext s1, h1, fun v2 H2 g2 d2 s2 R2 h2 => ?_, fun cls dx H' x s => bad cls dx H' x (s1.trans s)⟩
  exact hs B H2 δ σ v1 v2 d1 d2 q Q ((r0.ext s1).ext s2) ((R1.toB r0).same s2 (DRel.frz_ext s2)) (R2.toB (r0.ext s1)) h2 fun v H' g c s R hq => ok v H' g c ((s1.trans s2).trans s) (R.back (s1.trans s2)) hq
theorem de_bin {op : Operator} {r : R2} {f : F2} (hs : Snd2 X.K r f) (ho : OpR X (binaryOp op) r) (ha : DE X W a ta) (hb : DE X W b tb) : DE X W (.BinOp a op b pos) (eOp f ta tb) := PE.imp (pe_op ho ha hb) (lift2 hs)
theorem Snd2.or {r r' : R2} {f : F2} (h : ∀ (B : Bs) (H : Hp) (δ : DSt) (σ : St) (x y : V) (d e : D) (q : Tg → D → Prop) (Q : VK), DRel X.K B H δ σ → BRep X.K H (Frz B H δ σ) d x → BRep X.K H (Frz B H δ σ) e y → f d e q →
  (∀ v H' g c, Same H H' → Res X.K B H H' δ σ g c v → q g c → Q v H') → r x y H Q ∨ r' x y H Q) : Snd2 X.K (fun x y H Q => r x y H Q ∨ r' x y H Q) f := h

/-- two lists, put into a new one (any list that may be read) -/
def rCatL (K : PySem.W.Frag) : R2 := fun x y H Q => ∃ l b xs zs, x = .ref l ∧ y = .ref b ∧ SqL K H l xs ∧ SqL K H b zs ∧ xs.length + zs.length ≤ sizeLine ∧ ∀ p, H p = none → Q (.ref p) (upd H p (.lst (xs ++ zs)))
theorem op_catL : OpR X (binaryOp .Add) (rCatL X.K) := by
  rintro pins s σ H x y v u Q I rx ry ⟨l, b, xs, zs, rfl, rfl, hH, hB, hz, q⟩
  cases rx
  cases ry
  obtain ⟨its, r, ⟨⟨cls, dd, data, sl⟩, n, ho, hc, hdd, hd⟩, z⟩ := I.list hH
  obtain ⟨its2, r2, ⟨⟨cls2, dd2, data2, sl2⟩, n2, ho2, hc2, hdd2, hd2⟩, z2⟩ := I.list hB
  simp only at hc hd hc2 hd2
  subst hc hd hc2 hd2
  have hl := r.length
  have hl2 := r2.length
  refine concat_meets ⟨_, ho, rfl⟩ ⟨_, ho2, rfl⟩ noFill_list_add seq_list_add PySem.F.slot_list_add PySem.F.entry_list_add (PySem.F.args_list_add_2 _ _) (list_addW l b its.toArray its2.toArray _ _ dd dd2 sl sl2 (by simp only [List.size_toArray]; omega)) ⟨ho, ho2, ?_⟩
  rw [show its.toArray ++ its2.toArray = (its ++ its2).toArray by simp]
  have both := I.lnew (t' := s.toks) (r.append r2) (by rw [List.length_append]; omega)
  exact ⟨.ref _, _, both, rfl, q _ I.fresh⟩
/-! ### tuples, told with their object -/
/-- a new tuple of these values -/
def tupOb (us : List Value) : Obj := { cls := .type "tuple", data := .seq us.toArray }
theorem lay_tup {pins : List (Addr × Obj)} {σ : St} {H : Hp} {s : Shared} {xs : List V} {us : List Value} {tk : Tok} (I : Inv X pins σ H s) (r : Vals xs us) (z : xs.length ≤ sizeLine) :
    Inv X pins σ (upd H s.heap.objs.size (.frz (tupOb us) (.tup xs))) { s with heap := s.heap.push (tupOb us), toks := tk } := by
  have g : (s.heap.push (tupOb us)).get? s.heap.objs.size = some (tupOb us) := Heap.get?_push_size _ rfl
  refine I.laid (fun b o => Heap.get?_push_of_some _) (Nat.le_refl _) ?_
  show _ ∧ _
  exact ⟨g, z, us, r, tupOb us, g, rfl, _, rfl⟩
/-- (a, b, ..) -/
def tTupP (t : TA) : TE := fun σ H Q => t σ H fun xs H1 => xs.length ≤ sizeLine ∧ ∀ p ob, H1 p = none → ob.dict = none → Q (.ref p) (upd H1 p (.frz ob (.tup xs)))
theorem pe_tupP {es : List Expr} {t : TA} {x1} (h : PA X es t) : PE X (.Tuple es x1 pos) (tTupP t) := by
  constructor
  intro pins s σ H Q I q
  refine wpAny_Tuple_spliced (thn (h.run pos pins s σ H _ I q) ?_)
  rintro us s1 ⟨xs, H1, I1, r, z, q⟩
  refine ⟨by rw [← r.length]; exact z, ?_⟩
  exact ⟨.ref _, _, lay_tup (tk := s1.toks) I1 r z, rfl, q _ _ (I1.hok.fresh (Nat.le_refl _)) rfl⟩
/-- t + u, neither empty -/
def rCatP (K : PySem.W.Frag) : R2 := fun x y H Q => ∃ a b xs ys, x = .ref a ∧ y = .ref b ∧ SqT K H a xs ∧ SqT K H b ys ∧ (xs ≠ [] ∧ ys ≠ []) ∧ xs.length + ys.length ≤ sizeLine ∧ ∀ p ob, H p = none → ob.dict = none → Q (.ref p) (upd H p (.frz ob (.tup (xs ++ ys))))
theorem op_catP : OpR X (binaryOp .Add) (rCatP X.K) := by
  rintro pins s σ H x y v u Q I rx ry ⟨a, b, xs, ys, rfl, rfl, ha, hb, hn, hz, q⟩
  cases rx
  cases ry
  obtain ⟨us, r1, p1, _⟩ := I.tuple ha
  obtain ⟨ws, r2, p2, _⟩ := I.tuple hb
  refine HT.cat_tup p1 p2 (fun z => hn.1 (r1.nil_iff.mp z)) (fun z => absurd (r2.nil_iff.mp z) hn.2) (fun z => ?_) (by rw [← r1.length, ← r2.length]; exact hz)
  exact ⟨.ref _, _, lay_tup (tk := s.toks) I (r1.append r2) (by rw [List.length_append]; exact hz), rfl, q _ _ (I.hok.fresh (Nat.le_refl _)) rfl⟩
/-- tuple(..) of a list, of a tuple -/
theorem call_tupleP : CallR X (.type "tuple") (fun xs H Q => ∃ p ys, xs = [.ref p] ∧ ((SqL X.K H p ys ∧ ∀ l ob, H l = none → ob.dict = none → Q (.ref l) (upd H l (.frz ob (.tup ys)))) ∨ (SqT X.K H p ys ∧ Q (.ref p) H))) := by
  rintro pins s σ H xs us Q I r ⟨p, ys, rfl, h⟩
  obtain ⟨_, rfl, rfl⟩ := vals1 r
  rcases h with ⟨hl, q⟩ | ⟨hl, q⟩
  · obtain ⟨ws, r', pl, hz⟩ := I.list hl
    refine call_tuple_list pl.isList (fun h' kp => ?_) (by rw [List.size_toArray, ← r'.length]; exact hz)
    have I1 := (I.kept (t' := s.toks) kp : Inv X pins σ H { s with heap := h' })
    exact ⟨.ref _, _, lay_tup (tk := s.toks) I1 r' hz, rfl, q _ _ (I1.hok.fresh (Nat.le_refl _)) rfl⟩
  · obtain ⟨ws, r', pl, hz⟩ := I.tuple hl
    exact call_tuple_same pl ⟨.ref _, H, I, rfl, q⟩
end
end DL

set_option Elab.async false
set_option linter.all false
set_option maxRecDepth 100000
namespace DL
open PySem PySem.Spec PyProof.Rows L2

/-! ### new objects -/
section
variable {K : PySem.W.Frag} {B : Bs} {H H' H0 Z Z' : Hp} {δ : DSt} {σ : St} {ds : List D} {vs : List V} {p : Addr} {M : Option Hp}
theorem newTup {ob : Obj} (r : DRel K B H δ σ) (hp : H p = none) (ho : ob.dict = none) (ra : RepA K (Frz B H δ σ) M ds vs) : Rep K (Frz B (upd H p (.frz ob (.tup vs))) δ σ) M (.tup ds) (.ref p) :=
  ⟨p, vs, rfl, ⟨ob, cut_some.mpr ⟨r.notOwn hp, upd_same⟩, ho⟩, RepA.same (DRel.frz_ext (same_upd' hp)) ra⟩
theorem newLst (r : DRel K B H δ σ) (hp : H p = none) (ra : RepA K (Frz B H δ σ) none ds vs) : OwnRep K (upd H p (.lst vs)) (cut (upd H p (.lst vs)) fun b => Hid B δ σ b ∨ b = p) p (.lst ds) :=
  ⟨vs, upd_same, RepA.same (same_cut (same_upd' hp) fun b hb z => z.elim id fun e => by
    rw [e, hp] at hb
    cases hb) ra⟩
theorem newDic {kds : List (Key × D)} {kvs : List (Key × V)} (r : DRel K B H δ σ) (hp : H p = none) (ra : RepK K (Frz B H δ σ) none kds kvs) : OwnRep K (upd H p (.dK kvs)) (cut (upd H p (.dK kvs)) fun b => Hid B δ σ b ∨ b = p) p (.dic kds) :=
  ⟨kvs, upd_same, RepK.same (same_cut (same_upd' hp) fun b hb z => z.elim id fun e => by
    rw [e, hp] at hb
    cases hb) ra⟩
theorem resTup {ob : Obj} (r : DRel K B H δ σ) (hp : H p = none) (ho : ob.dict = none) (ra : RepA K (Frz B H δ σ) none ds vs) : Res K B H (upd H p (.frz ob (.tup vs))) δ σ .fz (.tup ds) (.ref p) := newTup r hp ho ra
theorem resTupF {ob : Obj} (r : DRel K B H δ σ) (hp : H p = none) (ho : ob.dict = none) (ra : RepA K (Frz B H δ σ) (some B.hp) ds vs) : Res K B H (upd H p (.frz ob (.tup vs))) δ σ .fr (.tup ds) (.ref p) := newTup r hp ho ra
theorem resLst (r : DRel K B H δ σ) (hp : H p = none) (ra : RepA K (Frz B H δ σ) none ds vs) : Res K B H (upd H p (.lst vs)) δ σ .nw (.lst ds) (.ref p) := ⟨p, rfl, hp, newLst r hp ra⟩
end

section
variable {X : Cx} {W : WX} {a b c e : Expr} {ta tb tc : ET} {pos : Pos}

/-! ### operators -/
def fAdd : F2 := fun x y q => match x, y with
  | .int i, .int j => q .fz (.int (i + j))
  | .str s, .str t => s.length + t.length ≤ sizeLine ∧ q .fz (.str (s ++ t))
  | .lst xs, .lst ys => xs.length + ys.length ≤ sizeLine ∧ q .nw (.lst (xs ++ ys))
  | .tup xs, .tup ys => (xs ≠ [] ∧ ys ≠ []) ∧ xs.length + ys.length ≤ sizeLine ∧ q .fz (.tup (xs ++ ys))
  | _, _ => False
theorem RepA.nil_iff {K : PySem.W.Frag} {H : Hp} {M : Option Hp} {ds : List D} {vs : List V} (h : RepA K H M ds vs) : vs = [] ↔ ds = [] := by
  have e := h.len
  cases ds <;> cases vs <;> simp_all
theorem snd_add : Snd2 X.K (fun x y H Q => rI0 (fun i j => .int (i + j)) x y H Q ∨ (∃ i j, x = .str i ∧ y = .str j ∧ i.length + j.length ≤ sizeLine ∧ Q (.str (i ++ j)) H) ∨ rCatL X.K x y H Q ∨ rCatP X.K x y H Q) fAdd := by
  intro B H δ σ x y d e q Q r hx hy h ok
  unfold fAdd at h
  split at h
  · cases hx
    cases hy
    exact .inl ⟨_, _, rfl, rfl, ok _ H _ _ (Same.refl H) (SRep.res (d := .int _) rfl) h⟩
  · cases hx
    cases hy
    exact .inr (.inl ⟨_, _, rfl, rfl, h.1, ok _ H _ _ (Same.refl H) (SRep.res (d := .str _) rfl) h.2⟩)
  · obtain ⟨a1, v1, rfl, s1, q1⟩ := hx
    obtain ⟨a2, v2, rfl, s2, q2⟩ := hy
    refine .inr (.inr (.inl ⟨a1, a2, v1, v2, rfl, rfl, s1, s2, by rw [q1.len, q2.len]; exact h.1, fun p hp => ?_⟩))
    exact ok _ _ _ _ (same_upd' hp) (resLst r hp (q1.app q2)) h.2
  · obtain ⟨a1, v1, rfl, s1, q1⟩ := hx
    obtain ⟨a2, v2, rfl, s2, q2⟩ := hy
    refine .inr (.inr (.inr ⟨a1, a2, v1, v2, rfl, rfl, (tp_cut s1).sq, (tp_cut s2).sq, ⟨fun z => h.1.1 (q1.nil_iff.mp z), fun z => h.1.2 (q2.nil_iff.mp z)⟩, by rw [q1.len, q2.len]; exact h.2.1, fun p ob hp ho => ?_⟩))
    exact ok _ _ .fz _ (same_upd' hp) (resTup r hp ho (q1.app q2)) h.2.2
  · exact h.elim
theorem de_add (ha : DE X W a ta) (hb : DE X W b tb) : DE X W (.BinOp a .Add b pos) (eOp fAdd ta tb) :=
  de_bin snd_add (op_add.or (op_add_str.or (op_catL.or op_catP))) ha hb
/-- two ints -/
def fI (C : Int → Int → Prop) (g : Int → Int → Int) : F2 := fun x y q => match x, y with
  | .int i, .int j => C i j ∧ q .fz (.int (g i j))
  | _, _ => False
theorem snd_I {C : Int → Int → Prop} {g : Int → Int → Int} : Snd2 X.K (rI C fun i j => .int (g i j)) (fI C g) := by
  intro B H δ σ x y d e q Q r hx hy h ok
  unfold fI at h
  split at h
  · cases hx
    cases hy
    exact ⟨_, _, rfl, rfl, h.1, ok _ H _ _ (Same.refl H) (SRep.res (d := .int _) rfl) h.2⟩
  · exact h.elim
def fSub : F2 := fun x y q => match x, y with
  | .int i, .int j => q .fz (.int (i - j))
  | _, _ => False
theorem snd_sub : Snd2 X.K (rI0 fun i j => .int (i - j)) fSub := by
  intro B H δ σ x y d e q Q r hx hy h ok
  unfold fSub at h
  split at h
  · cases hx
    cases hy
    exact ⟨_, _, rfl, rfl, ok _ H _ _ (Same.refl H) (SRep.res (d := .int _) rfl) h⟩
  · exact h.elim
theorem de_sub (ha : DE X W a ta) (hb : DE X W b tb) : DE X W (.BinOp a .Sub b pos) (eOp fSub ta tb) := de_bin snd_sub op_sub ha hb
theorem de_mul (ha : DE X W a ta) (hb : DE X W b tb) : DE X W (.BinOp a .Mult b pos) (eOp (fI CMul (· * ·)) ta tb) := de_bin snd_I op_mul ha hb
theorem de_mod (ha : DE X W a ta) (hb : DE X W b tb) : DE X W (.BinOp a .Mod b pos) (eOp (fI (fun _ j => 0 < j) (· % ·)) ta tb) := de_bin snd_I op_mod ha hb
theorem de_div (ha : DE X W a ta) (hb : DE X W b tb) : DE X W (.BinOp a .FloorDiv b pos) (eOp (fI CDiv (· / ·)) ta tb) := de_bin snd_I op_fdiv ha hb
theorem de_pow (ha : DE X W a ta) (hb : DE X W b tb) : DE X W (.BinOp a .Pow b pos) (eOp (fI CPow fun i j => i ^ j.toNat) ta tb) := de_bin snd_I op_pow ha hb
/-- a new list, k times -/
def eRep (ta tb : ET) : ET := fun e δ q => ta e δ fun g x => tb e δ fun _ y => match g, x, y with
  | .nw, .lst xs, .int k => (-(2 ^ 63) ≤ k ∧ k < 2 ^ 63 ∧ xs.length * k.toNat ≤ sizeLine) ∧ q .nw (.lst (List.replicate k.toNat xs).flatten)
  | _, _, _ => False
theorem RepA.rep {K : PySem.W.Frag} {H : Hp} {M : Option Hp} {ds : List D} {vs : List V} (h : RepA K H M ds vs) : ∀ k : Nat, RepA K H M (List.replicate k ds).flatten (List.replicate k vs).flatten
  | 0 => rfl
  | k + 1 => by
    rw [List.replicate_succ, List.replicate_succ, List.flatten_cons, List.flatten_cons]
    exact h.app (RepA.rep h k)
theorem de_rep (ha : DE X W a ta) (hb : DE X W b tb) : DE X W (.BinOp a .Mult b pos) (eRep ta tb) := PE.imp (pe_op op_rep ha hb) fun σ H Q => by
  rintro ⟨B, δ, e, q, r0, h, ok, bad⟩
  refine ⟨B, δ, e, _, r0, h, fun v1 H1 g1 d1 s1 R1 h1 => ?_, bad⟩
  refine ⟨B, δ, e, _, r0.ext s1, h1, fun v2 H2 g2 d2 s2 R2 h2 => ?_, fun cls dx H' x s => bad cls dx H' x (s1.trans s)⟩
  split at h2
  · obtain ⟨p, rfl, n, vs, e1, e2⟩ := R1
    have rr := (r0.ext s1).ext s2
    have hb := R2.toB (r0.ext s1)
    cases hb
    refine ⟨p, _, vs, rfl, rfl, s2 _ _ e1, h2.1.1, h2.1.2.1, by rw [e2.len]; exact h2.1.2.2, fun p' hp => ?_⟩
    refine ok _ _ _ _ ((s1.trans s2).trans (same_upd' hp)) ((resLst rr hp (RepA.rep (RepA.same ?_ e2) _)).back (s1.trans s2)) h2.2
    exact (same_cut (fun _ _ z => z) fun b _ z => .inl z).trans (DRel.frz_ext s2)
  · exact h2.elim
/-- -a -/
def eNeg (ta : ET) : ET := fun e δ q => ta e δ fun _ x => match x with
  | .int i => q .fz (.int (-i))
  | _ => False
theorem de_neg (ha : DE X W a ta) : DE X W (.UnaryOp .USub a pos) (eNeg ta) := PE.imp (pe_un un_neg ha) fun σ H Q => by
  rintro ⟨B, δ, e, q, r0, h, ok, bad⟩
  refine ⟨B, δ, e, _, r0, h, fun v1 H1 g1 d1 s1 R1 h1 => ?_, bad⟩
  cases d1 with
  | int i =>
    have hb := R1.toB r0
    cases hb
    exact ⟨i, rfl, ok _ _ _ _ s1 (SRep.res (d := .int _) rfl) h1⟩
  | _ => exact h1.elim

/-! ### comparisons -/
abbrev F2b := D → D → (Bool → Prop) → Prop
def Snd2b (K : PySem.W.Frag) (r : R2) (f : F2b) : Prop := ∀ (H Z : Hp) (x y : V) (d e : D) (q : Bool → Prop) (Q : VK), Same Z H → BRep K H Z d x → BRep K H Z e y → f d e q → (∀ b, q b → Q (.bl b) H) → r x y H Q
def eCmp (f : F2b) (ta tb : ET) : ET := fun e δ q => ta e δ fun _ x => tb e δ fun _ y => f x y fun b => q .fz (.bl b)
def bCmp (f : F2b) (ta tb : ET) : BT := fun e δ q => ta e δ fun _ x => tb e δ fun _ y => f x y q
theorem de_cmp {op : CmpOp} {r : R2} {f : F2b} (hs : Snd2b X.K r f) (ho : OpR X (compareOp op) r) (ha : DE X W a ta) (hb : DE X W b tb) (hm : behindInMarks op b = false) : DE X W (.Compare a [op] [b] pos) (eCmp f ta tb) := PE.imp (pe_cmpR ho ha hb hm) fun σ H Q => by
  rintro ⟨B, δ, e, q, r0, h, ok, bad⟩
  refine ⟨B, δ, e, _, r0, h, fun v1 H1 g1 d1 s1 R1 h1 => ?_, bad⟩
  refine ⟨B, δ, e, _, r0.ext s1, h1, fun v2 H2 g2 d2 s2 R2 h2 => ?_, fun cls dx H' x s => bad cls dx H' x (s1.trans s)⟩
  exact hs H2 _ v1 v2 d1 d2 _ Q (cut_le _ _) ((R1.toB r0).same s2 (DRel.frz_ext s2)) (R2.toB (r0.ext s1)) h2 fun b hq => ok _ _ _ _ (s1.trans s2) (SRep.res (d := .bl b) rfl) hq
theorem dt_cmp {op : CmpOp} {r : R2} {f : F2b} (hs : Snd2b X.K r f) (ho : OpR X (compareOp op) r) (ha : DE X W a ta) (hb : DE X W b tb) (hm : behindInMarks op b = false) : DT X W (.Compare a [op] [b] pos) (bCmp f ta tb) := PT.imp (pt_cmpR ho ha hb hm) fun σ H Q => by
  rintro ⟨B, δ, e, q, r0, h, ok, bad⟩
  refine ⟨B, δ, e, _, r0, h, fun v1 H1 g1 d1 s1 R1 h1 => ?_, bad⟩
  refine ⟨B, δ, e, _, r0.ext s1, h1, fun v2 H2 g2 d2 s2 R2 h2 => ?_, fun cls dx H' x s => bad cls dx H' x (s1.trans s)⟩
  exact hs H2 _ v1 v2 d1 d2 _ _ (cut_le _ _) ((R1.toB r0).same s2 (DRel.frz_ext s2)) (R2.toB (r0.ext s1)) h2 fun b hq => ⟨b, rfl, ok _ _ (s1.trans s2) hq⟩
/-- a op b op' c -/
def bChain (f f' : F2b) (ta tb tc : ET) : BT := fun e δ q => ta e δ fun _ x => tb e δ fun _ y => f x y fun k => if k = true then tc e δ fun _ z => f' y z q else q false
theorem dt_chain {op op' : CmpOp} {r r' : R2} {f f' : F2b} (hs : Snd2b X.K r f) (ho : OpR X (compareOp op) r) (hs' : Snd2b X.K r' f') (ho' : OpR X (compareOp op') r') (ha : DE X W a ta) (hb : DE X W b tb) (hc : DE X W c tc)
    (hm : lastMarks [op, op'] [b, c] = false := by with_unfolding_all rfl) : DT X W (.Compare a [op, op'] [b, c] pos) (bChain f f' ta tb tc) := PT.imp (pt_chain ho ho' ha hb hc hm) fun σ H Q => by
  rintro ⟨B, δ, e, q, r0, h, ok, bad⟩
  refine ⟨B, δ, e, _, r0, h, fun v1 H1 g1 d1 s1 R1 h1 => ?_, bad⟩
  refine ⟨B, δ, e, _, r0.ext s1, h1, fun v2 H2 g2 d2 s2 R2 h2 => ?_, fun cls dx H' x s => bad cls dx H' x (s1.trans s)⟩
  have r2 := (r0.ext s1).ext s2
  refine hs H2 _ v1 v2 d1 d2 _ _ (cut_le _ _) ((R1.toB r0).same s2 (DRel.frz_ext s2)) (R2.toB (r0.ext s1)) h2 fun k hq => ⟨k, rfl, ?_⟩
  cases k with
  | false =>
    rw [if_neg Bool.false_ne_true] at hq ⊢
    exact ⟨false, rfl, ok _ _ (s1.trans s2) hq⟩
  | true =>
    rw [if_pos rfl] at hq ⊢
    refine ⟨B, δ, e, _, r2, hq, fun v3 H3 g3 d3 s3 R3 h3 => ?_, fun cls dx H' x s => bad cls dx H' x ((s1.trans s2).trans s)⟩
    exact hs' H3 _ v2 v3 d2 d3 _ _ (cut_le _ _) ((R2.toB (r0.ext s1)).same s3 (DRel.frz_ext s3)) (R3.toB r2) h3 fun b hq => ⟨b, rfl, ok _ _ ((s1.trans s2).trans s3) hq⟩
def fLt : F2b := fun x y q => match x, y with
  | .int i, .int j => q (decide (i < j))
  | .str i, .str j => q (decide (i.cps.toList < j.cps.toList))
  | _, _ => False
def fLe : F2b := fun x y q => match x, y with
  | .int i, .int j => q (decide (i ≤ j))
  | _, _ => False
def fGt : F2b := fun x y q => match x, y with
  | .int i, .int j => q (decide (j < i))
  | _, _ => False
def fGe : F2b := fun x y q => match x, y with
  | .int i, .int j => q (decide (j ≤ i))
  | _, _ => False
def rLt2 : R2 := fun x y H Q => rI0 (fun i j => .bl (decide (i < j))) x y H Q ∨ (∃ i j, x = .str i ∧ y = .str j ∧ Q (.bl (decide (i.cps.toList < j.cps.toList))) H)
theorem op_lt2 : OpR X (compareOp .Lt) rLt2 := op_lt.or op_lt_str
theorem snd_lt : Snd2b X.K rLt2 fLt := by
  intro H Z x y d e q Q s hx hy h ok
  unfold fLt at h
  split at h
  · cases hx
    cases hy
    exact .inl ⟨_, _, rfl, rfl, ok _ h⟩
  · cases hx
    cases hy
    exact .inr ⟨_, _, rfl, rfl, ok _ h⟩
  · exact h.elim
theorem snd_le : Snd2b X.K (rI0 fun i j => .bl (decide (i ≤ j))) fLe := by
  intro H Z x y d e q Q s hx hy h ok
  unfold fLe at h
  split at h
  · cases hx
    cases hy
    exact ⟨_, _, rfl, rfl, ok _ h⟩
  · exact h.elim
theorem snd_gt : Snd2b X.K (rI0 fun i j => .bl (decide (j < i))) fGt := by
  intro H Z x y d e q Q s hx hy h ok
  unfold fGt at h
  split at h
  · cases hx
    cases hy
    exact ⟨_, _, rfl, rfl, ok _ h⟩
  · exact h.elim
theorem snd_ge : Snd2b X.K (rI0 fun i j => .bl (decide (j ≤ i))) fGe := by
  intro H Z x y d e q Q s hx hy h ok
  unfold fGe at h
  split at h
  · cases hx
    cases hy
    exact ⟨_, _, rfl, rfl, ok _ h⟩
  · exact h.elim

/-! ### == of data -/
def keyPy : Key → PyData
  | .inl i => .int i
  | .inr s => .str s
mutual
def D.py : D → PyData
  | .non => .none
  | .bl b => .bool b
  | .int i => .int i
  | .str s => .str s
  | .lst ds => .list (pyA ds)
  | .tup ds => .tuple (pyA ds)
  | .dic _ => .dict []
  | .ktp ks => .tuple (ks.map keyPy)
  | .dtp _ => .dict []
def pyA : List D → List PyData
  | [] => []
  | d :: ds => d.py :: pyA ds
end
section
variable {K : PySem.W.Frag} {H : Hp} {M : Option Hp}
theorem LstM.sql {K : PySem.W.Frag} {H : Hp} {M : Option Hp} {a : Addr} {vs : List V} (h : LstM K H M a vs) : SqL K H a vs := by
  cases M with
  | none => exact h
  | some B => exact .inl (.inl h.2)
theorem keys_dp : ∀ ks : List Key, DpAll K H (ks.map kV) (ks.map keyPy)
  | [] => .nil
  | .inl i :: ks => .cons (.int i) (keys_dp ks)
  | .inr s :: ks => .cons (.str s) (keys_dp ks)
mutual
theorem Rep.dp : ∀ (d : D) (v : V), d.py.canLay0 = true → Rep K H M d v → Dp K H v d.py
  | .non, v, _, h => by
    cases (show v = .non from h)
    exact .non
  | .bl b, v, _, h => by
    cases (show v = .bl b from h)
    exact .bl b
  | .int i, v, _, h => by
    cases (show v = .int i from h)
    exact .int i
  | .str s, v, _, h => by
    cases (show v = .str s from h)
    exact .str s
  | .dic kds, v, c, h => by
    have c' : PyData.canLay0 (.dict []) = true := c
    simp [PyData.canLay0] at c'
  | .dtp kds, v, c, h => by
    have c' : PyData.canLay0 (.dict []) = true := c
    simp [PyData.canLay0] at c'
  | .ktp ks, v, c, h => by
    obtain ⟨a, e, s⟩ := h
    subst e
    exact .tup (.inl (.inl s)) (keys_dp ks)
  | .lst ds, v, c, h => by
    obtain ⟨a, vs, e, s, q⟩ := h
    subst e
    exact .lst (LstM.sql s) (RepA.dp ds vs (by
      have c' : PyData.canLay0 (.list (pyA ds)) = true := c
      simpa [PyData.canLay0] using c') q)
  | .tup ds, v, c, h => by
    obtain ⟨a, vs, e, s, q⟩ := h
    subst e
    exact .tup s.sq (RepA.dp ds vs (by
      have c' : PyData.canLay0 (.tuple (pyA ds)) = true := c
      simpa [PyData.canLay0] using c') q)
theorem RepA.dp : ∀ (ds : List D) (vs : List V), PyData.canLayAll0 (pyA ds) = true → RepA K H M ds vs → DpAll K H vs (pyA ds)
  | [], vs, _, h => by
    cases (show vs = [] from h)
    exact .nil
  | d :: ds, vs, c, h => by
    obtain ⟨v, r, e, h1, h2⟩ := h
    subst e
    have c' : d.py.canLay0 = true ∧ PyData.canLayAll0 (pyA ds) = true := by
      have c2 : PyData.canLayAll0 (d.py :: pyA ds) = true := c
      simpa [PyData.canLayAll0] using c2
    exact .cons (Rep.dp d v c'.1 h1) (RepA.dp ds r c'.2 h2)
end
end
def fEq : F2b := fun x y q => match x, y with
  | .int i, .int j => q (decide (i = j))
  | .str i, .str j => q (decide (i = j))
  | .bl i, .bl j => q (decide (i = j))
  | .str _, .non => q false
  | .non, .str _ => q false
  | x, y => (SeqAt.shaped x.py = true ∧ SeqAt.shaped y.py = true) ∧ q (PyData.eqv x.py y.py)
def fNe : F2b := fun x y q => fEq x y fun b => q (!b)
def rEq2 (K : PySem.W.Frag) : R2 := fun x y H Q => rEq x y H Q ∨ rEqD K x y H Q
def rNe2 (K : PySem.W.Frag) : R2 := fun x y H Q => rNe x y H Q ∨ rNeD K x y H Q
theorem op_eq2 (hu : X.A.units + 64 < cLine) : OpR X (compareOp .Eq) (rEq2 X.K) := op_eq.or (op_eqD hu)
theorem op_ne2 (hu : X.A.units + 64 < cLine) : OpR X (compareOp .NotEq) (rNe2 X.K) := op_ne.or (op_neD hu)
theorem dp_of {K : PySem.W.Frag} {H Z : Hp} {d : D} {v : V} (s : Same Z H) (h : BRep K H Z d v) (c : SeqAt.shaped d.py = true) : Dp K H v d.py := Rep.dp d v (SeqAt.canLay_of_shaped c) (h.full s)
theorem snd_eq : Snd2b X.K (rEq2 X.K) fEq := by
  intro H Z x y d e q Q s hx hy h ok
  unfold fEq at h
  split at h
  · cases hx
    cases hy
    refine .inl ⟨rfl, ?_⟩
    rw [show ∀ i j : Int, decide (V.int i = V.int j) = decide (i = j) from fun i j => by simp]
    exact ok _ h
  · cases hx
    cases hy
    refine .inl ⟨rfl, ?_⟩
    rw [show ∀ i j : Str, decide (V.str i = V.str j) = decide (i = j) from fun i j => by simp]
    exact ok _ h
  · cases hx
    cases hy
    refine .inl ⟨rfl, ?_⟩
    rw [show ∀ i j : Bool, decide (V.bl i = V.bl j) = decide (i = j) from fun i j => by simp]
    exact ok _ h
  · cases hx
    cases hy
    refine .inl ⟨rfl, ?_⟩
    exact ok _ h
  · cases hx
    cases hy
    refine .inl ⟨rfl, ?_⟩
    exact ok _ h
  · exact .inr ⟨_, _, dp_of s hx h.1.1, dp_of s hy h.1.2, h.1.1, h.1.2, ok _ h.2⟩
theorem snd_ne : Snd2b X.K (rNe2 X.K) fNe := by
  intro H Z x y d e q Q s hx hy h ok
  unfold fNe fEq at h
  split at h
  · cases hx
    cases hy
    refine .inl ⟨rfl, ?_⟩
    rw [show ∀ i j : Int, decide (V.int i = V.int j) = decide (i = j) from fun i j => by simp]
    exact ok _ h
  · cases hx
    cases hy
    refine .inl ⟨rfl, ?_⟩
    rw [show ∀ i j : Str, decide (V.str i = V.str j) = decide (i = j) from fun i j => by simp]
    exact ok _ h
  · cases hx
    cases hy
    refine .inl ⟨rfl, ?_⟩
    rw [show ∀ i j : Bool, decide (V.bl i = V.bl j) = decide (i = j) from fun i j => by simp]
    exact ok _ h
  · cases hx
    cases hy
    refine .inl ⟨rfl, ?_⟩
    exact ok _ h
  · cases hx
    cases hy
    refine .inl ⟨rfl, ?_⟩
    exact ok _ h
  · exact .inr ⟨_, _, dp_of s hx h.1.1, dp_of s hy h.1.2, h.1.1, h.1.2, ok _ h.2⟩
end
end DL

set_option Elab.async false
set_option linter.all false
set_option maxRecDepth 100000
namespace DL
open PySem PySem.Spec PyProof.Rows L2

section
variable {X : Cx} {W : WX} {a b c e : Expr} {ta tb tc : ET} {pos : Pos}

/-! ### keys as data -/
def keyToD : Key → D
  | .inl i => .int i
  | .inr s => .str s
theorem keyToD_rep {K : PySem.W.Frag} (k : Key) {Z : Hp} {M : Option Hp} : Rep K Z M (keyToD k) (kV k) := by
  cases k with
  | inl i => exact rfl
  | inr s => exact rfl
theorem keys_rep {K : PySem.W.Frag} {Z : Hp} {M : Option Hp} : ∀ ks : List Key, RepA K Z M (ks.map keyToD) (ks.map kV)
  | [] => rfl
  | k :: ks => ⟨kV k, ks.map kV, rfl, keyToD_rep k, keys_rep ks⟩
/-- a dict's entry whose key is a tuple -/
def lookT (kvs : List (List Key × Key)) (ks : List Key) : Option Key := (kvs.find? fun kv => decide (kv.1 = ks)).map (·.2)
theorem lookT_val (ks : List Key) : ∀ kvs : List (List Key × Key), valV (kvV kvs) ks = (lookT kvs ks).map kV
  | [] => rfl
  | (k, v) :: r => by
    have ih := lookT_val ks r
    by_cases e : k = ks
    · subst e
      simp [kvV, lookT, valV]
    · have : valV (kvV ((k, v) :: r)) ks = valV (kvV r) ks := valV_neg (p := (k, kV v)) e
      rw [this, ih]
      unfold lookT
      rw [List.find?_cons, decide_eq_false e]
/-! ### in, not in -/
def D.flat : D → Bool
  | .int _ => true
  | .str _ => true
  | _ => false
def eqF : D → D → Bool
  | .int i, .int j => decide (i = j)
  | .str i, .str j => decide (i = j)
  | _, _ => false
def inD (x : D) (ds : List D) : Bool := ds.any fun d => eqF d x
def fIn0 : F2b := fun x y q => match y with
  | .lst ds => (x.flat = true ∧ ds.all D.flat = true) ∧ q (inD x ds)
  | .tup ds => (x.flat = true ∧ ds.all D.flat = true) ∧ q (inD x ds)
  | .dic kds => match x with
    | .str s => q (lookD kds (.inr s)).isSome
    | .int i => q (lookD kds (.inl i)).isSome
    | _ => False
  | .str z => match x with
    | .str s => ∃ c, s = ⟨#[c]⟩ ∧ q (decide (c ∈ z.cps.toList))
    | _ => False
  | .dtp kvs => match x with
    | .ktp ks => q (lookT kvs ks).isSome
    | _ => False
  | _ => False
def fIn (neg : Bool) : F2b := fun x y q => fIn0 x y fun b => q (if neg then !b else b)
def rInD (neg : Bool) : R2 := fun x y H Q => ∃ p o, y = .ref p ∧ DGet H p x o ∧ Q (.bl (if neg then !o.isSome else o.isSome)) H
theorem op_in_dic (hu : X.A.units + 1 < cLine) : OpR X (compareOp .In) (rInD false) := by
  rintro pins s σ H x y v u Q I rx ry ⟨p, o, rfl, g, q⟩
  cases ry
  exact d_in hu I g rx fun s' I' => ⟨.bl o.isSome, H, I', rfl, q⟩
theorem op_notIn_dic (hu : X.A.units + 1 < cLine) : OpR X (compareOp .NotIn) (rInD true) := by
  rintro pins s σ H x y v u Q I rx ry ⟨p, o, rfl, g, q⟩
  cases ry
  exact d_notIn hu I g rx fun s' I' => ⟨.bl (!o.isSome), H, I', rfl, q⟩
def rInS (neg : Bool) : R2 := fun x y H Q => ∃ (c : Nat) (z : Str), x = .str ⟨#[c]⟩ ∧ y = .str z ∧ Q (.bl (if neg then !decide (c ∈ z.cps.toList) else decide (c ∈ z.cps.toList))) H
def rInAll (K : PySem.W.Frag) (neg : Bool) : R2 := fun x y H Q => rIn K neg x y H Q ∨ rInD neg x y H Q ∨ rInS neg x y H Q
theorem op_in (hu : X.A.units + 1 < cLine) : OpR X (compareOp .In) (rInAll X.K false) := op_in_seq.or ((op_in_dic hu).or op_in_sign)
theorem op_notIn (hu : X.A.units + 1 < cLine) : OpR X (compareOp .NotIn) (rInAll X.K true) := op_notIn_seq.or ((op_notIn_dic hu).or op_notIn_sign)
section
variable {K : PySem.W.Frag} {H Z : Hp} {M : Option Hp}
theorem Rep.flat {d : D} {v : V} (f : d.flat = true) (h : Rep K H M d v) : flatV v = true ∧ SRep d v := by
  cases d with
  | int i =>
    cases (show v = .int i from h)
    exact ⟨rfl, rfl⟩
  | str i =>
    cases (show v = .str i from h)
    exact ⟨rfl, rfl⟩
  | _ => exact absurd (show false = true from f) Bool.false_ne_true
theorem eqF_V {d e : D} {v w : V} (fd : d.flat = true) (fe : e.flat = true) (hd : SRep d v) (he : SRep e w) : eqV v w = eqF d e := by
  cases d with
  | int i =>
    cases (show v = .int i from hd)
    cases e with
    | int j =>
      cases (show w = .int j from he)
      show (i == j) = decide (i = j)
      rw [Bool.beq_eq_decide_eq]
    | str j =>
      cases (show w = .str j from he)
      rfl
    | _ => exact absurd (show false = true from fe) Bool.false_ne_true
  | str i =>
    cases (show v = .str i from hd)
    cases e with
    | int j =>
      cases (show w = .int j from he)
      rfl
    | str j =>
      cases (show w = .str j from he)
      show (i == j) = decide (i = j)
      rw [Bool.beq_eq_decide_eq]
    | _ => exact absurd (show false = true from fe) Bool.false_ne_true
  | _ => exact absurd (show false = true from fd) Bool.false_ne_true
theorem RepA.flat : ∀ {ds : List D} {vs : List V}, ds.all D.flat = true → RepA K H M ds vs → vs.all flatV = true ∧ ∀ x w, x.flat = true → SRep x w → inV w vs = inD x ds
  | [], vs, _, h => by
    cases (show vs = [] from h)
    exact ⟨rfl, fun _ _ _ _ => rfl⟩
  | d :: ds, vs, f, h => by
    obtain ⟨v, r, e, h1, h2⟩ := h
    subst e
    have f' : d.flat = true ∧ ds.all D.flat = true := by simpa using f
    obtain ⟨z1, z2⟩ := Rep.flat f'.1 h1
    obtain ⟨z3, z4⟩ := RepA.flat f'.2 h2
    refine ⟨by rw [List.all_cons, z1, z3] <;> rfl, fun x w fx hx => ?_⟩
    have := z4 x w fx hx
    unfold inV inD at this ⊢
    rw [List.any_cons, List.any_cons, this, eqF_V f'.1 fx z2 hx]
end
theorem snd_in (neg : Bool) : Snd2b X.K (rInAll X.K neg) (fIn neg) := by
  intro H Z x y d e q Q s hx hy h ok
  unfold fIn fIn0 at h
  split at h
  · obtain ⟨p, vs, rfl, s1, q1⟩ := hy
    obtain ⟨f1, f2⟩ := Rep.flat h.1.1 (hx.full s)
    obtain ⟨f3, f4⟩ := RepA.flat h.1.2 q1
    exact .inl ⟨p, vs, rfl, .inl s1, f1, f3, by rw [f4 _ _ h.1.1 f2]; exact ok _ h.2⟩
  · obtain ⟨p, vs, rfl, s1, q1⟩ := hy
    obtain ⟨f1, f2⟩ := Rep.flat h.1.1 (hx.full s)
    obtain ⟨f3, f4⟩ := RepA.flat h.1.2 q1
    exact .inl ⟨p, vs, rfl, .inr ((Same.tp s s1).sq), f1, f3, by rw [f4 _ _ h.1.1 f2]; exact ok _ h.2⟩
  · obtain ⟨p, kvs, rfl, s1, q1⟩ := hy
    split at h
    · cases hx
      rename_i kds z
      refine .inr (.inl ⟨p, valV kvs (.inr z), rfl, .inl ⟨kvs, .inr z, s1, rfl, rfl⟩, ?_⟩)
      rcases RepK.look (.inr z) q1 with ⟨z1, z2⟩ | ⟨d, v, z1, z2, _⟩
      · rw [z2]
        rw [z1] at h
        exact ok _ h
      · rw [z2]
        rw [z1] at h
        exact ok _ h
    · cases hx
      rename_i kds z
      refine .inr (.inl ⟨p, valV kvs (.inl z), rfl, .inl ⟨kvs, .inl z, s1, rfl, rfl⟩, ?_⟩)
      rcases RepK.look (.inl z) q1 with ⟨z1, z2⟩ | ⟨d, v, z1, z2, _⟩
      · rw [z2]
        rw [z1] at h
        exact ok _ h
      · rw [z2]
        rw [z1] at h
        exact ok _ h
    · exact h.elim
  · cases hy
    split at h
    · cases hx
      obtain ⟨c, rfl, h⟩ := h
      exact .inr (.inr ⟨c, _, rfl, rfl, ok _ h⟩)
    · exact h.elim
  · obtain ⟨p, rfl, s1⟩ := hy
    split at h
    · obtain ⟨b, rfl, s2⟩ := hx
      rename_i kds _ ks
      refine .inr (.inl ⟨p, valV (kvV kds) ks, rfl, .inr ⟨_, ks, b, s1, rfl, s _ _ s2, rfl⟩, ?_⟩)
      rw [lookT_val, Option.isSome_map]
      exact ok _ h
    · exact h.elim
  · exact h.elim

/-! ### subscripts -/
def fIx : F2 := fun x y q => match x, y with
  | .lst ds, .int i => ∃ d, atI ds i = some d ∧ q .fz d
  | .tup ds, .int i => ∃ d, atI ds i = some d ∧ q .fz d
  | .str s, .int i => s.length ≤ sizeLine ∧ ∃ c, atI s.cps.toList i = some c ∧ q .fz (.str ⟨#[c]⟩)
  | .dic kds, .int i => ∃ d, lookD kds (.inl i) = some d ∧ q .fz d
  | .dic kds, .str s => ∃ d, lookD kds (.inr s) = some d ∧ q .fz d
  | .ktp ks, .int i => ∃ d, atI (ks.map keyToD) i = some d ∧ q .fz d
  | .dtp kvs, .ktp ks => ∃ c, lookT kvs ks = some c ∧ q .fz (keyToD c)
  | _, _ => False
def rIxD : R2 := fun x y H Q => ∃ p v, x = .ref p ∧ DGet H p y (some v) ∧ Q v H
theorem ix_dic (hu : X.A.units + 1 < cLine) : IxR X rIxD := by
  rintro value slice pins s σ H x y v u Q I rx ry ⟨p, w, rfl, g, q⟩ hs
  cases rx
  have hT := dict_typeIs I g
  unfold subscriptTail
  refine wpAny_bind ?_
  have nm := hT.not_modules
  rw [getitemInPython_of_ne nm]
  refine wpAny_bind (wpAny_specialOf hT PySem.F.slot_dict_getitem.lookup ?_)
  have fin : wpAny (model X.prog X.w) X.A (subscripted slice false (Value.ref p) u) (fun r s₃ => wpAny (model X.prog X.w) X.A (letTemporaryGo value (Value.ref p) r >>= fun _ => pure r) (EP X pins σ Q) X.xe s₃) X.xe s := by
    rw [hs]
    exact wpAny_operating (thn (d_getItem (Q := fun r s₃ => EP X pins σ Q r s₃) hu I g ry fun w' s' I' rw' => ⟨w, H, I', rw', q⟩) fun r s₃ h₃ => wpAny_bind (wpAny_letTemporaryGo (wpAny_pure h₃)))
  exact wpAny_pure (wpAny_bind fin)
theorem atI_rep {K : PySem.W.Frag} {H : Hp} {M : Option Hp} {ds : List D} {vs : List V} {i : Int} {d : D} (h : RepA K H M ds vs) (e : atI ds i = some d) : ∃ v, atI vs i = some v ∧ Rep K H M d v := by
  unfold atI at e ⊢
  rw [h.len]
  cases q : ixN ds.length i with
  | none =>
    rw [q] at e
    cases e
  | some j =>
    rw [q] at e
    exact h.get e
theorem snd_ix : Snd2 X.K (fun x y H Q => rIx X.K x y H Q ∨ rIxD x y H Q) fIx := by
  intro B H δ σ x y d e q Q r hx hy h ok
  have res : ∀ {d : D} {v : V}, Rep X.K (Frz B H δ σ) none d v → Res X.K B H H δ σ .fz d v := fun z => z
  unfold fIx at h
  split at h
  · obtain ⟨p, vs, rfl, s1, q1⟩ := hx
    cases hy
    obtain ⟨d, e, h⟩ := h
    obtain ⟨v, e', z⟩ := atI_rep q1 e
    exact .inl (.inl ⟨p, vs, _, v, rfl, rfl, s1, e', ok _ _ _ _ (Same.refl H) (res z) h⟩)
  · obtain ⟨p, vs, rfl, s1, q1⟩ := hx
    cases hy
    obtain ⟨d, e, h⟩ := h
    obtain ⟨v, e', z⟩ := atI_rep q1 e
    exact .inl (.inr (.inl ⟨p, vs, _, v, rfl, rfl, (tp_cut s1).sq, e', ok _ _ _ _ (Same.refl H) (res z) h⟩))
  · cases hx
    cases hy
    obtain ⟨z, c, e, h⟩ := h
    exact .inl (.inr (.inr ⟨_, _, c, rfl, rfl, z, e, ok _ _ _ _ (Same.refl H) (SRep.res (d := .str _) rfl) h⟩))
  · obtain ⟨p, kvs, rfl, s1, q1⟩ := hx
    cases hy
    rename_i kds i
    obtain ⟨d, e, h⟩ := h
    rcases RepK.look (.inl i) q1 with ⟨z1, z2⟩ | ⟨d', v, z1, z2, z3⟩
    · rw [z1] at e
      cases e
    · rw [z1] at e
      cases e
      exact .inr ⟨p, v, rfl, .inl ⟨kvs, .inl i, s1, rfl, z2.symm⟩, ok _ _ _ _ (Same.refl H) (res z3) h⟩
  · obtain ⟨p, kvs, rfl, s1, q1⟩ := hx
    cases hy
    rename_i kds i
    obtain ⟨d, e, h⟩ := h
    rcases RepK.look (.inr i) q1 with ⟨z1, z2⟩ | ⟨d', v, z1, z2, z3⟩
    · rw [z1] at e
      cases e
    · rw [z1] at e
      cases e
      exact .inr ⟨p, v, rfl, .inl ⟨kvs, .inr i, s1, rfl, z2.symm⟩, ok _ _ _ _ (Same.refl H) (res z3) h⟩
  · obtain ⟨p, rfl, s1⟩ := hx
    cases hy
    obtain ⟨d, e, h⟩ := h
    obtain ⟨v, e', z⟩ := atI_rep (keys_rep (K := X.K) (Z := Frz B H δ σ) (M := none) _) e
    exact .inl (.inr (.inl ⟨p, _, _, v, rfl, rfl, .inl (.inl (cut_some.mp s1).2), e', ok _ _ _ _ (Same.refl H) (res z) h⟩))
  · obtain ⟨p, rfl, s1⟩ := hx
    obtain ⟨b, rfl, s2⟩ := hy
    rename_i kds ks
    obtain ⟨c, e, h⟩ := h
    exact .inr ⟨p, kV c, rfl, .inr ⟨_, ks, b, s1, rfl, (cut_some.mp s2).2, by rw [lookT_val, e] <;> rfl⟩, ok _ _ _ _ (Same.refl H) (res (keyToD_rep c)) h⟩
  · exact h.elim
theorem de_ix (hu : X.A.units + 1 < cLine) (ha : DE X W a ta) (hb : DE X W b tb) (hs : PlainIx b := by exact fun _ _ => rfl) : DE X W (.Subscript a b pos) (eOp fIx ta tb) :=
  PE.imp (pe_ix (ix_seq.or (ix_dic hu)) ha hb hs) (lift2 snd_ix)

/-! ### slices -/
abbrev OT := XQ → DSt → (Option Int → Prop) → Prop
def LiftO (K : PySem.W.Frag) (W : WX) (t : OT) : TO := fun σ H Q => ∃ B δ e q, DRel K B H δ σ ∧ t e δ q ∧
  (∀ o H', Same H H' → q o → Q o H') ∧ ∀ cls dx H' x, Same H H' → XRep K H' cls dx x → e x → W cls dx σ H'
abbrev DO (X : Cx) (W : WX) (e : Option Expr) (t : OT) : Prop := PO X e (LiftO X.K W t)
theorem PO.imp {X : Cx} {e : Option Expr} {t t' : TO} (h : PO X e t) (i : ∀ σ H Q, t' σ H Q → t σ H Q) : PO X e t' := ⟨fun pins s σ H Q I w => h.run pins s σ H Q I (i σ H Q w)⟩
def oNone : OT := fun _ _ q => q none
def oSome (t : ET) : OT := fun e δ q => t e δ fun _ x => match x with
  | .int i => q (some i)
  | _ => False
theorem do_none : DO X W none oNone := PO.imp po_none fun σ H Q ⟨B, δ, e, q, r, h, ok, bad⟩ => ok _ _ (Same.refl H) h
theorem do_some (ha : DE X W a ta) : DO X W (some a) (oSome ta) := PO.imp (po_some ha) fun σ H Q ⟨B, δ, e, q, r0, h, ok, bad⟩ => by
  refine ⟨B, δ, e, _, r0, h, fun v1 H1 g1 d1 s1 R1 h1 => ?_, bad⟩
  cases d1 with
  | int i =>
    have hb := R1.toB r0
    cases hb
    exact ⟨i, rfl, ok _ _ s1 h1⟩
  | _ => exact h1.elim
def cutD (xs : List D) (lo hi : Option Int) : List D := (xs.drop (HT.sIx xs.length 0 lo)).take (HT.sIx xs.length xs.length hi - HT.sIx xs.length 0 lo)
theorem RepA.cut {K : PySem.W.Frag} {H : Hp} {M : Option Hp} {ds : List D} {vs : List V} (h : RepA K H M ds vs) (lo hi : Option Int) : RepA K H M (cutD ds lo hi) (cutV vs lo hi) := by
  unfold cutD cutV
  rw [h.len]
  exact (h.drop _).take _
def eSl (t : ET) (lo hi : OT) : ET := fun e δ q => t e δ fun _ x => lo e δ fun l => hi e δ fun u => match x with
  | .lst ds => q .nw (.lst (cutD ds l u))
  | .str z => z.length ≤ sizeLine ∧ q .fz (.str (cutS z l u))
  | _ => False
theorem de_slice {p2 : Pos} {lo hi : Option Expr} {tl th : OT} (ha : DE X W a ta) (hl : DO X W lo tl) (hh : DO X W hi th) : DE X W (.Subscript a (.Slice lo hi none p2) pos) (eSl ta tl th) :=
  PE.imp (pe_slice (sl_list.or sl_str) ha hl hh) fun σ H Q ⟨B, δ, e, q, r0, h, ok, bad⟩ => by
  refine ⟨B, δ, e, _, r0, h, fun v1 H1 g1 d1 s1 R1 h1 => ?_, bad⟩
  refine ⟨B, δ, e, _, r0.ext s1, h1, fun o2 H2 s2 h2 => ?_, fun cls dx H' x s => bad cls dx H' x (s1.trans s)⟩
  refine ⟨B, δ, e, _, (r0.ext s1).ext s2, h2, fun o3 H3 s3 h3 => ?_, fun cls dx H' x s => bad cls dx H' x ((s1.trans s2).trans s)⟩
  have rr := ((r0.ext s1).ext s2).ext s3
  have hb := (R1.toB r0).same (s2.trans s3) (DRel.frz_ext (s2.trans s3))
  split at h3
  · obtain ⟨p, vs, rfl, z1, z2⟩ := hb
    refine .inl ⟨p, vs, rfl, z1, fun p' hp => ?_⟩
    exact ok _ _ _ _ (((s1.trans s2).trans s3).trans (same_upd' hp)) ((resLst rr hp (z2.cut o2 o3)).back ((s1.trans s2).trans s3)) h3
  · cases hb
    exact .inr ⟨_, rfl, h3.1, ok _ _ _ _ ((s1.trans s2).trans s3) (SRep.res (d := .str _) rfl) h3.2⟩
  · exact h3.elim
/-- xs[::-1] -/
def eRevL (t : ET) : ET := fun e δ q => t e δ fun _ x => match x with
  | .lst ds => q .nw (.lst ds.reverse)
  | _ => False
theorem de_rev {k : Nat} {p1 p2 p3 : Pos} (ha : DE X W a ta) : DE X W (.Subscript a (.Slice none none (some (.UnaryOp .USub (.Constant (.int 1) k p1) p2)) p3) pos) (eRevL ta) :=
  PE.imp (pe_revL ha) fun σ H Q ⟨B, δ, e, q, r0, h, ok, bad⟩ => by
  refine ⟨B, δ, e, _, r0, h, fun v1 H1 g1 d1 s1 R1 h1 => ?_, bad⟩
  have hb := R1.toB r0
  split at h1
  · obtain ⟨p, vs, rfl, z1, z2⟩ := hb
    refine ⟨p, vs, rfl, z1, fun p' hp => ?_⟩
    exact ok _ _ _ _ (s1.trans (same_upd' hp)) ((resLst (r0.ext s1) hp z2.rev).back s1) h1
  · exact h1.elim
end
end DL

set_option Elab.async false
set_option linter.all false
set_option maxRecDepth 100000
namespace DL
open PySem PySem.Spec PyProof.Rows L2

section
variable {X : Cx} {W : WX} {a b c e : Expr} {es : List Expr} {ta tb tc : ET} {t : AT} {pos : Pos}

/-! ### items, arguments -/
/-- what may be put into something -/
def Tg.put : Tg → Prop → Prop
  | .bo, _ => False
  | _, p => p
theorem Tg.put_ne {g : Tg} {p : Prop} (h : g.put p) : g ≠ .bo ∧ p := by
  cases g with
  | bo => exact h.elim
  | fz => exact ⟨nofun, h⟩
  | fr => exact ⟨nofun, h⟩
  | nw => exact ⟨nofun, h⟩
def aNil : AT := fun _ _ q => q []
def iCons (t : ET) (r : AT) : AT := fun e δ q => t e δ fun g d => g.put (r e δ fun ds => q (d :: ds))
def iConsF (t : ET) (r : AT) : AT := fun e δ q => t e δ fun g d => newTg g d = true ∧ r e δ fun ds => q (d :: ds)
def aCons (t : ET) (r : AT) : AT := fun e δ q => t e δ fun _ d => r e δ fun ds => q (d :: ds)
theorem di_nil : DI X W [] aNil := PA.imp pa_nil fun σ H Q ⟨B, δ, e, q, r, h, ok, bad⟩ => ok [] H [] (Same.refl H) rfl h
theorem dif_nil : DIF X W [] aNil := PA.imp pa_nil fun σ H Q ⟨B, δ, e, q, r, h, ok, bad⟩ => ok [] H [] (Same.refl H) rfl h
theorem da_nil : DA X W [] aNil := PA.imp pa_nil fun σ H Q ⟨B, δ, e, q, r, h, ok, bad⟩ => ok [] H [] (Same.refl H) rfl h
theorem di_cons (ha : DE X W e ta) (hr : DI X W es t) (hs : starEach (e :: es) X.env = (false, eval e X.env) :: starEach es X.env := by rfl) : DI X W (e :: es) (iCons ta t) :=
  PA.imp (pa_cons ha hr hs) fun σ H Q ⟨B, δ, e, q, r0, h, ok, bad⟩ => by
  refine ⟨B, δ, e, _, r0, h, fun v1 H1 g1 d1 s1 R1 h1 => ?_, bad⟩
  obtain ⟨hg, h1⟩ := Tg.put_ne h1
  exact ⟨B, δ, e, _, r0.ext s1, h1, fun vs H2 ds s2 R2 h2 => ok (v1 :: vs) H2 (d1 :: ds) (s1.trans s2) ⟨v1, vs, rfl, Rep.same (DRel.frz_ext s2) (R1.toZ r0 hg), R2⟩ h2, fun cls dx H' x s => bad cls dx H' x (s1.trans s)⟩
theorem dif_cons (ha : DE X W e ta) (hr : DIF X W es t) (hs : starEach (e :: es) X.env = (false, eval e X.env) :: starEach es X.env := by rfl) : DIF X W (e :: es) (iConsF ta t) :=
  PA.imp (pa_cons ha hr hs) fun σ H Q ⟨B, δ, e, q, r0, h, ok, bad⟩ => by
  refine ⟨B, δ, e, _, r0, h, fun v1 H1 g1 d1 s1 R1 h1 => ?_, bad⟩
  exact ⟨B, δ, e, _, r0.ext s1, h1.2, fun vs H2 ds s2 R2 h2 => ok (v1 :: vs) H2 (d1 :: ds) (s1.trans s2) ⟨v1, vs, rfl, Rep.same (DRel.frz_ext s2) (R1.toF r0 h1.1), R2⟩ h2, fun cls dx H' x s => bad cls dx H' x (s1.trans s)⟩
theorem da_cons (ha : DE X W e ta) (hr : DA X W es t) (hs : starEach (e :: es) X.env = (false, eval e X.env) :: starEach es X.env := by rfl) : DA X W (e :: es) (aCons ta t) :=
  PA.imp (pa_cons ha hr hs) fun σ H Q ⟨B, δ, e, q, r0, h, ok, bad⟩ => by
  refine ⟨B, δ, e, _, r0, h, fun v1 H1 g1 d1 s1 R1 h1 => ?_, bad⟩
  exact ⟨B, δ, e, _, r0.ext s1, h1, fun vs H2 ds s2 R2 h2 => ok (v1 :: vs) H2 (d1 :: ds) (s1.trans s2) ⟨v1, vs, rfl, (R1.toB r0).same s2 (DRel.frz_ext s2), R2⟩ h2, fun cls dx H' x s => bad cls dx H' x (s1.trans s)⟩
theorem BRepA.full {K : PySem.W.Frag} {H Z : Hp} (s : Same Z H) : ∀ {ds : List D} {vs : List V}, BRepA K H Z ds vs → RepA K H none ds vs
  | [], vs, h => h
  | d :: ds, vs, h => by
    obtain ⟨v, r, e, h1, h2⟩ := h
    exact ⟨v, r, e, h1.full s, BRepA.full s h2⟩

/-! ### displays -/
def eTup (t : AT) : ET := fun e δ q => t e δ fun ds => ds.length ≤ sizeLine ∧ q .fz (.tup ds)
def eTupF (t : AT) : ET := fun e δ q => t e δ fun ds => ds.length ≤ sizeLine ∧ q .fr (.tup ds)
def eLst (t : AT) : ET := fun e δ q => t e δ fun ds => ds.length ≤ sizeLine ∧ q .nw (.lst ds)
theorem de_tup {x1} (h : DI X W es t) : DE X W (.Tuple es x1 pos) (eTup t) := PE.imp (pe_tupP h) fun σ H Q ⟨B, δ, e, q, r0, h, ok, bad⟩ => by
  refine ⟨B, δ, e, _, r0, h, fun vs H1 ds s1 R1 h1 => ⟨by rw [R1.len]; exact h1.1, fun p ob hp ho => ?_⟩, bad⟩
  exact ok _ _ .fz (.tup ds) (s1.trans (same_upd' hp)) (resTup (r0.ext s1) hp ho R1) h1.2
theorem de_tupF {x1} (h : DIF X W es t) : DE X W (.Tuple es x1 pos) (eTupF t) := PE.imp (pe_tupP h) fun σ H Q ⟨B, δ, e, q, r0, h, ok, bad⟩ => by
  refine ⟨B, δ, e, _, r0, h, fun vs H1 ds s1 R1 h1 => ⟨by rw [R1.len]; exact h1.1, fun p ob hp ho => ?_⟩, bad⟩
  exact ok _ _ .fr (.tup ds) (s1.trans (same_upd' hp)) (resTupF (r0.ext s1) hp ho R1) h1.2
theorem de_lst (h : DI X W es t) : DE X W (.List es pos) (eLst t) := PE.imp (pe_lst h) fun σ H Q ⟨B, δ, e, q, r0, h, ok, bad⟩ => by
  refine ⟨B, δ, e, _, r0, h, fun vs H1 ds s1 R1 h1 => ⟨by rw [R1.len]; exact h1.1, fun p hp => ?_⟩, bad⟩
  exact ok _ _ _ _ (s1.trans (same_upd' hp)) ((resLst (r0.ext s1) hp R1).back s1) h1.2
/-- {} -/
def eDicN : ET := fun _ _ q => q .nw (.dic [])
theorem de_dicN : DE X W (.Dict [] [] pos) eDicN := PE.imp pe_dnewK fun σ H Q ⟨B, δ, e, q, r0, h, ok, bad⟩ => by
  intro p hp
  exact ok _ _ .nw (.dic []) (same_upd' hp) ⟨p, rfl, hp, newDic r0 hp rfl⟩ h

/-! ### and, or, not, if .. else -/
abbrev DW (X : Cx) (W : WX) (e : Expr) (t : BT) : Prop := PW X e (LiftT X.K W t)
def bAnd (t u : BT) : BT := fun e δ q => t e δ fun k => if k = true then u e δ q else q false
def bOr (t u : BT) : BT := fun e δ q => t e δ fun k => if k = true then q true else u e δ q
def bNot (t : BT) : BT := fun e δ q => t e δ fun k => q (!k)
variable {ba bb : BT} {rest : List Expr}
theorem dw_and1 (h : DT X W a ba) : DW X W (.BoolOp .And [a] pos) ba := pw_and1 h
theorem dw_or1 (h : DT X W a ba) : DW X W (.BoolOp .Or [a] pos) ba := pw_or1 h
theorem dw_and (ha : DT X W a ba) (hb : DW X W (.BoolOp .And (b :: rest) pos) bb) : DW X W (.BoolOp .And (a :: b :: rest) pos) (bAnd ba bb) := PW.imp (pw_and ha hb) fun σ H Q ⟨B, δ, e, q, r0, h, ok, bad⟩ => by
  refine ⟨B, δ, e, _, r0, h, fun k H1 s1 h1 => ?_, bad⟩
  cases k with
  | false => exact ok _ _ s1 h1
  | true => exact ⟨B, δ, e, _, r0.ext s1, h1, fun k' H2 s2 h2 => ok _ _ (s1.trans s2) h2, fun cls dx H' x s => bad cls dx H' x (s1.trans s)⟩
theorem dw_or (ha : DT X W a ba) (hb : DW X W (.BoolOp .Or (b :: rest) pos) bb) : DW X W (.BoolOp .Or (a :: b :: rest) pos) (bOr ba bb) := PW.imp (pw_or ha hb) fun σ H Q ⟨B, δ, e, q, r0, h, ok, bad⟩ => by
  refine ⟨B, δ, e, _, r0, h, fun k H1 s1 h1 => ?_, bad⟩
  cases k with
  | true => exact ok _ _ s1 h1
  | false => exact ⟨B, δ, e, _, r0.ext s1, h1, fun k' H2 s2 h2 => ok _ _ (s1.trans s2) h2, fun cls dx H' x s => bad cls dx H' x (s1.trans s)⟩
theorem dt_w (h : DW X W a ba) : DT X W a ba := PW.pt h
theorem dt_not (h : DT X W a ba) : DT X W (.UnaryOp .Not a pos) (bNot ba) := PT.imp (pt_not h) fun σ H Q ⟨B, δ, e, q, r0, h, ok, bad⟩ =>
  ⟨B, δ, e, _, r0, h, fun k H1 s1 h1 => ok _ _ s1 h1, bad⟩
/-- a bool as a test -/
def bVal (t : ET) : BT := fun e δ q => t e δ fun _ x => match x with
  | .bl k => q k
  | _ => False
theorem dt_val (h : DE X W a ta) (he : ∀ whole, isTrue a X.env whole = (do let v ← whole; standAt a.pos; holding [v] (truthy v)) := by intro _; rfl) : DT X W a (bVal ta) := PT.imp (pt_val h he) fun σ H Q ⟨B, δ, e, q, r0, h, ok, bad⟩ => by
  refine ⟨B, δ, e, _, r0, h, fun v1 H1 g1 d1 s1 R1 h1 => ?_, bad⟩
  cases d1 with
  | bl k =>
    cases R1.toB r0
    exact ⟨k, rfl, ok _ _ s1 h1⟩
  | _ => exact h1.elim
/-- any value as a test -/
def truD : D → (Bool → Prop) → Prop
  | .non, q => q false
  | .bl b, q => q b
  | .int i, q => q (i != 0)
  | .str s, q => s.length ≤ sizeLine ∧ q ((s.length : Int) != 0)
  | .lst ds, q => q (!ds.isEmpty)
  | .tup ds, q => q (!ds.isEmpty)
  | .ktp ks, q => q (!ks.isEmpty)
  | .dic _, _ => False
  | .dtp _, _ => False
def bTru (t : ET) : BT := fun e δ q => t e δ fun _ x => truD x q
theorem dt_tru (h : DE X W a ta) (he : ∀ whole, isTrue a X.env whole = (do let v ← whole; standAt a.pos; holding [v] (truthy v)) := by intro _; rfl) : DT X W a (bTru ta) := PT.imp (pt_truth h he) fun σ H Q ⟨B, δ, e, q, r0, h, ok, bad⟩ => by
  refine ⟨B, δ, e, _, r0, h, fun v1 H1 g1 d1 s1 R1 h1 => ?_, bad⟩
  have hb := R1.toB r0
  have emp : ∀ {α β : Type} {l : List α} {m : List β}, l.length = m.length → (!l.isEmpty) = !m.isEmpty := fun {_ _ l m} z => by cases l <;> cases m <;> simp_all
  cases d1 with
  | non =>
    cases hb
    exact ⟨_, rfl, ok _ _ s1 h1⟩
  | bl k =>
    cases hb
    exact ⟨_, rfl, ok _ _ s1 h1⟩
  | int k =>
    cases hb
    exact ⟨_, rfl, ok _ _ s1 h1⟩
  | str k =>
    cases hb
    exact ⟨_, ⟨h1.1, rfl⟩, ok _ _ s1 h1.2⟩
  | lst ds =>
    obtain ⟨p, vs, rfl, z1, z2⟩ := hb
    exact ⟨_, .inl ⟨vs, z1, (emp z2.len).symm⟩, ok _ _ s1 h1⟩
  | tup ds =>
    obtain ⟨p, vs, rfl, z1, z2⟩ := hb
    exact ⟨_, .inr (.inl ⟨vs, (tp_cut z1).sq, (emp z2.len).symm⟩), ok _ _ s1 h1⟩
  | ktp ks =>
    obtain ⟨p, rfl, z1⟩ := hb
    exact ⟨_, .inr (.inl ⟨_, .inl (.inl (cut_some.mp z1).2), (emp (by rw [List.length_map])).symm⟩), ok _ _ s1 h1⟩
  | dic ds => exact h1.elim
  | dtp ds => exact h1.elim
/-- and, or as values -/
def eAnd (t u : ET) : ET := fun e δ q => t e δ fun _ x => match x with
  | .bl k => if k = true then u e δ q else q .fz (.bl false)
  | _ => False
def eOr (t u : ET) : ET := fun e δ q => t e δ fun _ x => match x with
  | .bl k => if k = true then q .fz (.bl true) else u e δ q
  | _ => False
def eNot (t : ET) : ET := fun e δ q => t e δ fun _ x => match x with
  | .bl k => q .fz (.bl !k)
  | _ => False
theorem de_one {op} (h : DE X W a ta) : DE X W (.BoolOp op [a] pos) ta := pe_one h
theorem de_and (ha : DE X W a ta) (hb : DE X W (.BoolOp .And (b :: rest) pos) tb) : DE X W (.BoolOp .And (a :: b :: rest) pos) (eAnd ta tb) := PE.imp (pe_and ha hb) fun σ H Q ⟨B, δ, e, q, r0, h, ok, bad⟩ => by
  refine ⟨B, δ, e, _, r0, h, fun v1 H1 g1 d1 s1 R1 h1 => ?_, bad⟩
  cases d1 with
  | bl k =>
    cases R1.toB r0
    cases k with
    | false => exact ⟨false, rfl, ok _ _ _ _ s1 (SRep.res (d := .bl false) rfl) h1⟩
    | true => exact ⟨true, rfl, B, δ, e, _, r0.ext s1, h1, fun v2 H2 g2 d2 s2 R2 h2 => ok _ _ _ _ (s1.trans s2) (R2.back s1) h2, fun cls dx H' x s => bad cls dx H' x (s1.trans s)⟩
  | _ => exact h1.elim
theorem de_or (ha : DE X W a ta) (hb : DE X W (.BoolOp .Or (b :: rest) pos) tb) : DE X W (.BoolOp .Or (a :: b :: rest) pos) (eOr ta tb) := PE.imp (pe_or ha hb) fun σ H Q ⟨B, δ, e, q, r0, h, ok, bad⟩ => by
  refine ⟨B, δ, e, _, r0, h, fun v1 H1 g1 d1 s1 R1 h1 => ?_, bad⟩
  cases d1 with
  | bl k =>
    cases R1.toB r0
    cases k with
    | true => exact ⟨true, rfl, ok _ _ _ _ s1 (SRep.res (d := .bl true) rfl) h1⟩
    | false => exact ⟨false, rfl, B, δ, e, _, r0.ext s1, h1, fun v2 H2 g2 d2 s2 R2 h2 => ok _ _ _ _ (s1.trans s2) (R2.back s1) h2, fun cls dx H' x s => bad cls dx H' x (s1.trans s)⟩
  | _ => exact h1.elim
theorem de_not (ha : DE X W a ta) : DE X W (.UnaryOp .Not a pos) (eNot ta) := PE.imp (pe_not ha) fun σ H Q ⟨B, δ, e, q, r0, h, ok, bad⟩ => by
  refine ⟨B, δ, e, _, r0, h, fun v1 H1 g1 d1 s1 R1 h1 => ?_, bad⟩
  cases d1 with
  | bl k =>
    cases R1.toB r0
    exact ⟨k, rfl, ok _ _ _ _ s1 (SRep.res (d := .bl _) rfl) h1⟩
  | _ => exact h1.elim
/-- a if t else b -/
def eIf (t : BT) (ta tb : ET) : ET := fun e δ q => t e δ fun k => if k = true then ta e δ q else tb e δ q
theorem de_if (hc : DT X W c ba) (ha : DE X W a ta) (hb : DE X W b tb) : DE X W (.IfExp c a b pos) (eIf ba ta tb) := PE.imp (pe_ifExp hc ha hb) fun σ H Q ⟨B, δ, e, q, r0, h, ok, bad⟩ => by
  refine ⟨B, δ, e, _, r0, h, fun k H1 s1 h1 => ?_, bad⟩
  cases k with
  | true => exact ⟨B, δ, e, _, r0.ext s1, h1, fun v2 H2 g2 d2 s2 R2 h2 => ok _ _ _ _ (s1.trans s2) (R2.back s1) h2, fun cls dx H' x s => bad cls dx H' x (s1.trans s)⟩
  | false => exact ⟨B, δ, e, _, r0.ext s1, h1, fun v2 H2 g2 d2 s2 R2 h2 => ok _ _ _ _ (s1.trans s2) (R2.back s1) h2, fun cls dx H' x s => bad cls dx H' x (s1.trans s)⟩

/-! ### defs -/
abbrev SpT := List D → XQ → (D → Prop) → Prop
/-- a def's promise over data: it changes nothing that stands, its lists are new -/
def SpD (K : PySem.W.Frag) (sp : SpT) : Sp := fun vs H Q E => ∃ ds e q, RepA K H none ds vs ∧ sp ds e q ∧
  (∀ v H' d, Same H H' → Rep K H' (some H) d v → q d → Q v H') ∧ ∀ cls dx H' x, Same H H' → XRep K H' cls dx x → e x → E cls dx H'
def eCall (sp : SpT) (t : AT) : ET := fun e δ q => t e δ fun ds => sp ds e (q .fr)
def eCallN (sp : SpT) (t : AT) : ET := fun e δ q => t e δ fun ds => sp ds e fun d => (d.top = true ∧ d.immIn = true) ∧ q .nw d
theorem mv_call {K : PySem.W.Frag} {B : Bs} {H1 H' : Hp} {δ : DSt} {σ : St} (r : DRel K B H1 δ σ) (s : Same H1 H') : Mv K H' (Frz B H' δ σ) (some H1) (some B.hp) := by
  refine ⟨fun a vs h => ⟨r.noB h.1, cut_some.mpr ⟨r.notOwn h.1, h.2⟩⟩, fun a vs h => ⟨r.noB h.1, cut_some.mpr ⟨r.notOwn h.1, h.2⟩⟩, fun a vs h => ?_, fun a vs h => cut_some.mpr ⟨r.noKt s h, h⟩, fun a vs h => ⟨r.noB h.1, cut_some.mpr ⟨r.notOwn h.1, h.2⟩⟩⟩
  have no := r.noTup s h
  obtain ⟨u, h, z⟩ := h
  exact ⟨u, cut_some.mpr ⟨no, h⟩, z⟩
theorem mv_imm {K : PySem.W.Frag} {B : Bs} {H1 H' : Hp} {δ : DSt} {σ : St} {M' : Option Hp} {a : Addr} {o : HO} (r : DRel K B H1 δ σ) (s : Same H1 H') (ha : H' a = some o) (n1 : ∀ xs, o ≠ .tup xs) (n2 : ∀ u w, o ≠ .frz u w) :
    Mv K H' (cut H' fun b => Hid B δ σ b ∨ b = a) (some fun _ => some (.lst [])) M' := by
  refine ⟨fun a vs h => ?_, fun a vs h => ?_, fun b vs h => ?_, fun b vs h => ?_, fun a vs h => ?_⟩
  · exact nomatch h.1
  · exact nomatch h.1
  rotate_left
  · refine cut_some.mpr ⟨fun z => ?_, h⟩
    rcases z with z | z
    · exact r.noKt s h z
    · subst z
      rw [ha] at h
      cases h
      exact n1 _ rfl
  · exact nomatch h.1
  have no : ¬ (Hid B δ σ b ∨ b = a) := fun z => by
    rcases z with z | z
    · exact r.noTup s h z
    · subst z
      obtain ⟨u, h, _⟩ := h
      rw [ha] at h
      cases h
      exact n2 _ _ rfl
  obtain ⟨u, h, z⟩ := h
  exact ⟨u, cut_some.mpr ⟨no, h⟩, z⟩
variable {k : Nat} {f : Addr} {fd : FuncData} {ps : List Str} {sp : SpT} {x : Str} {p : Pos}
theorem de_call (F : FnOk X.prog X.w X.K X.mg X.base (L2.CX X.prog X.w) k f fd ps (SpD X.K sp)) (hr : Room k X.A) (hg : Gl X x) (hm : X.mg x = some (.ref f)) (hk : PySem.W.keepIn X.K (.ref f) = true) (hb : Binds X.K fd ps []) (tk : Takes X W)
    (ha : DA X W (e :: es) t) (hdb : (x == ("__debug__" : Str)) = false := by decide) (he : starEach (e :: es) X.env = (false, eval e X.env) :: starEach es X.env := by rfl) (hpl : (backTo pos (starEach es X.env)).any (·.1) = false := by rfl) :
    DE X W (.Call (.Name x p) (e :: es) [] pos) (eCall sp t) := PE.imp (pe_callSD F hr hg hm hk hb .nil (fun σ => passAt tk σ) ha hdb he hpl) fun σ H Q ⟨B, δ, e, q, r0, h, ok, bad⟩ => by
  refine ⟨B, δ, e, _, r0, h, fun vs H1 ds s1 R1 h1 => ?_, bad⟩
  refine ⟨ds, e, _, by rw [List.append_nil]; exact R1.full (cut_le _ _), h1, fun v H' d s R hq => ok v H' .fr d (s1.trans s) (R.mv (mv_call (r0.ext s1) s)) hq, fun cls dx H' x s xr hx => bad cls dx H' x (s1.trans s) xr hx⟩
theorem de_callN (F : FnOk X.prog X.w X.K X.mg X.base (L2.CX X.prog X.w) k f fd ps (SpD X.K sp)) (hr : Room k X.A) (hg : Gl X x) (hm : X.mg x = some (.ref f)) (hk : PySem.W.keepIn X.K (.ref f) = true) (hb : Binds X.K fd ps []) (tk : Takes X W)
    (ha : DA X W (e :: es) t) (hdb : (x == ("__debug__" : Str)) = false := by decide) (he : starEach (e :: es) X.env = (false, eval e X.env) :: starEach es X.env := by rfl) (hpl : (backTo pos (starEach es X.env)).any (·.1) = false := by rfl) :
    DE X W (.Call (.Name x p) (e :: es) [] pos) (eCallN sp t) := PE.imp (pe_callSD F hr hg hm hk hb .nil (fun σ => passAt tk σ) ha hdb he hpl) fun σ H Q ⟨B, δ, e, q, r0, h, ok, bad⟩ => by
  refine ⟨B, δ, e, _, r0, h, fun vs H1 ds s1 R1 h1 => ?_, bad⟩
  refine ⟨ds, e, _, by rw [List.append_nil]; exact R1.full (cut_le _ _), h1, fun v H' d s R hq => ?_, fun cls dx H' x s xr hx => bad cls dx H' x (s1.trans s) xr hx⟩
  cases d with
  | lst ds' =>
    obtain ⟨a, vs', rfl, z, zr⟩ := R
    exact ok (.ref a) H' .nw (.lst ds') (s1.trans s) ⟨a, rfl, s1.free z.1, vs', z.2, (RepA.imm (M' := some fun _ => some (.lst [])) _ _ hq.1.2 zr).mv (mv_imm (r0.ext s1) s z.2 (fun xs e => by cases e) fun o u e => by cases e)⟩ hq.2
  | dic kds =>
    obtain ⟨a, vs', rfl, z, zr⟩ := R
    exact ok (.ref a) H' .nw (.dic kds) (s1.trans s) ⟨a, rfl, s1.free z.1, vs', z.2, (RepK.imm (M' := some fun _ => some (.lst [])) _ _ hq.1.2 zr).mv (mv_imm (r0.ext s1) s z.2 (fun xs e => by cases e) fun o u e => by cases e)⟩ hq.2
  | dtp kvs =>
    obtain ⟨a, rfl, z⟩ := R
    exact ok (.ref a) H' .nw (.dtp kvs) (s1.trans s) ⟨a, rfl, s1.free z.1, z.2⟩ hq.2
  | _ => exact absurd hq.1.1 Bool.false_ne_true
end
end DL

set_option Elab.async false
set_option linter.all false
set_option maxRecDepth 100000
namespace DL
open PySem PySem.Spec PyProof.Rows L2

/-! ### slots stored -/
section
variable {K : PySem.W.Frag} {B : Bs} {H H' : Hp} {δ : DSt} {σ : St} {i : Nat} {s : Sl} {v : V} {d d' : D} {a : Addr}
theorem own_set {b : Addr} (h : OwnA (setS δ i s) (σ.set i (some v)) b) : OwnA δ σ b ∨ (∃ d, s = .ow d ∧ v = .ref b) := by
  obtain ⟨j, d, e1, e2⟩ := h
  rw [setS_eq] at e1
  by_cases hj : i = j
  · subst hj
    refine .inr ⟨d, ?_⟩
    by_cases hl : i < δ.length
    · rw [List.getElem?_set_self hl] at e1
      by_cases hl2 : i < σ.length
      · rw [List.getElem?_set_self hl2] at e2
        cases e1
        cases e2
        exact ⟨rfl, rfl⟩
      · rw [List.getElem?_eq_none (by simpa using hl2)] at e2
        cases e2
    · rw [List.getElem?_eq_none (by simpa using hl)] at e1
      cases e1
  · rw [List.getElem?_set_ne hj] at e1 e2
    exact .inl ⟨j, d, e1, e2⟩
theorem own_weak {b : Addr} (h : OwnA (setS δ i s) σ b) (hn : ∀ d, s ≠ .ow d) : OwnA δ σ b := by
  obtain ⟨j, d, e1, e2⟩ := h
  rw [setS_eq] at e1
  by_cases hj : i = j
  · subst hj
    by_cases hl : i < δ.length
    · rw [List.getElem?_set_self hl] at e1
      cases e1
      exact absurd rfl (hn d)
    · rw [List.getElem?_eq_none (by simpa using hl)] at e1
      cases e1
  · rw [List.getElem?_set_ne hj] at e1
    exact ⟨j, d, e1, e2⟩
theorem hid_set {b : Addr} (h : Hid B (setS δ i s) (σ.set i (some v)) b) : Hid B δ σ b ∨ (∃ d, s = .ow d ∧ v = .ref b) := by
  rcases h with h | h
  · rcases own_set h with z | z
    · exact .inl (.inl z)
    · exact .inr z
  · exact .inl (.inr h)
theorem hid_weak {b : Addr} (h : Hid B (setS δ i s) σ b) (hn : ∀ d, s ≠ .ow d) : Hid B δ σ b := by
  rcases h with h | h
  · exact .inl (own_weak h hn)
  · exact .inr h
/-- a slot gets a value -/
theorem DRel.put (r : DRel K B H δ σ) (sm : Same H H') (P : Addr → Prop) (hP : ∀ b, P b → H b = none) (ho : ∀ d a, s = .ow d → v = .ref a → P a)
    (hs : SlOk K B.hp H' (cut H' (Hid B (setS δ i s) (σ.set i (some v)))) s (some (some v))) :
    DRel K B H' (setS δ i s) (σ.set i (some v)) ∧ Same (Frz B H δ σ) (Frz B H' (setS δ i s) (σ.set i (some v))) := by
  have own : ∀ b, Hid B (setS δ i s) (σ.set i (some v)) b → Hid B δ σ b ∨ P b := fun b hb => by
    rcases hid_set hb with z | ⟨d, e1, e2⟩
    · exact .inl z
    · exact .inr (ho d b e1 e2)
  have fr : Same (Frz B H δ σ) (Frz B H' (setS δ i s) (σ.set i (some v))) := same_cut sm fun b hb z => by
    rcases own b z with z | z
    · exact z
    · rw [hP b z] at hb
      cases hb
  refine ⟨⟨by rw [setS_eq, List.length_set, List.length_set]; exact r.len, r.base.trans sm, fun a ha => let ⟨z1, o, z2, z3⟩ := r.hide a ha; ⟨z1, o, sm _ _ z2, z3⟩, fun b hb hh => ?_, fun j l d e a e1 e2 e3 e4 => ?_, fun j t e => ?_⟩, fr⟩
  · rcases own_set hb with z | ⟨d, e1, e2⟩
    · exact r.apart b z hh
    · obtain ⟨_, o, z, _⟩ := r.hide b hh
      rw [hP b (ho d b e1 e2)] at z
      cases z
  · rw [setS_eq] at e1 e2
    by_cases hj : i = j
    · by_cases hl : i = l
      · exact hj.symm.trans hl
      · exfalso
        subst hj
        rw [List.getElem?_set_ne hl] at e2 e4
        have hlt : i < δ.length := by
          by_cases q : i < δ.length
          · exact q
          · rw [List.getElem?_eq_none (by simpa using q)] at e1
            cases e1
        rw [List.getElem?_set_self hlt] at e1
        rw [List.getElem?_set_self (by rw [← r.len]; exact hlt)] at e3
        cases e1
        cases e3
        obtain ⟨o, z, _⟩ := (r.own (.inl ⟨l, e, e2, e4⟩)).2
        rw [hP a (ho d a rfl rfl)] at z
        cases z
    · by_cases hl : i = l
      · exfalso
        subst hl
        rw [List.getElem?_set_ne hj] at e1 e3
        have hlt : i < δ.length := by
          by_cases q : i < δ.length
          · exact q
          · rw [List.getElem?_eq_none (by simpa using q)] at e2
            cases e2
        rw [List.getElem?_set_self hlt] at e2
        rw [List.getElem?_set_self (by rw [← r.len]; exact hlt)] at e4
        cases e2
        cases e4
        obtain ⟨o, z, _⟩ := (r.own (.inl ⟨j, d, e1, e3⟩)).2
        rw [hP a (ho e a rfl rfl)] at z
        cases z
      · rw [List.getElem?_set_ne hj] at e1 e3
        rw [List.getElem?_set_ne hl] at e2 e4
        exact r.inj j l d e a e1 e2 e3 e4
  · have e' := e
    rw [setS_eq] at e'
    by_cases hj : i = j
    · subst hj
      have hlt : i < δ.length := by
        by_cases q : i < δ.length
        · exact q
        · rw [List.getElem?_eq_none (by simpa using q)] at e'
          cases e'
      rw [List.getElem?_set_self hlt] at e'
      cases e'
      rw [List.getElem?_set_self (by rw [← r.len]; exact hlt)]
      exact hs
    · rw [List.getElem?_set_ne hj] at e' ⊢
      exact (r.sl j t e').same sm fr
theorem DRel.putSh (r : DRel K B H δ σ) (h : Rep K (Frz B H δ σ) none d v) : DRel K B H (setS δ i (.sh d)) (σ.set i (some v)) ∧ Same (Frz B H δ σ) (Frz B H (setS δ i (.sh d)) (σ.set i (some v))) :=
  r.put (Same.refl H) (fun _ => False) (fun _ z => z.elim) (fun d a e => by cases e) ⟨v, rfl, h.same (same_cut (Same.refl H) fun b _ z => by
    rcases hid_set z with z | ⟨d, e, _⟩
    · exact z
    · cases e)⟩
theorem DRel.putFr (r : DRel K B H δ σ) (h : Rep K (Frz B H δ σ) (some B.hp) d v) : DRel K B H (setS δ i (.fr d)) (σ.set i (some v)) ∧ Same (Frz B H δ σ) (Frz B H (setS δ i (.fr d)) (σ.set i (some v))) :=
  r.put (Same.refl H) (fun _ => False) (fun _ z => z.elim) (fun d a e => by cases e) ⟨v, rfl, h.same (same_cut (Same.refl H) fun b _ z => by
    rcases hid_set z with z | ⟨d, e, _⟩
    · exact z
    · cases e)⟩
theorem DRel.putOw (r : DRel K B H δ σ) (sm : Same H H') (n : H a = none) (o : OwnRep K H' (cut H' fun b => Hid B δ σ b ∨ b = a) a d) :
    DRel K B H' (setS δ i (.ow d)) (σ.set i (some (.ref a))) ∧ Same (Frz B H δ σ) (Frz B H' (setS δ i (.ow d)) (σ.set i (some (.ref a)))) :=
  r.put sm (fun b => b = a) (fun b z => by rw [z]; exact n) (fun d' b e1 e2 => by cases e2; rfl) ⟨a, rfl, r.noB n, o.same (fun _ z => z) (same_cut (Same.refl H') fun b _ z => by
    rcases hid_set z with z | ⟨d', e1, e2⟩
    · exact .inl z
    · cases e2
      exact .inr rfl)⟩
/-- a slot that says less -/
theorem DRel.weak (r : DRel K B H δ σ) (hn : ∀ d, s ≠ .ow d) (hs : ∀ Z, Same (Frz B H δ σ) Z → (∀ o, OwnA δ σ a → H a = some o → σ[i]? = some (some (.ref a)) → (∃ d, δ[i]? = some (Sl.ow d)) → Z a = some o) → SlOk K B.hp H Z s σ[i]?) :
    DRel K B H (setS δ i s) σ ∧ Same (Frz B H δ σ) (Frz B H (setS δ i s) σ) := by
  have fr : Same (Frz B H δ σ) (Frz B H (setS δ i s) σ) := same_cut (Same.refl H) fun b hb z => hid_weak z hn
  refine ⟨⟨by rw [setS_eq, List.length_set]; exact r.len, r.base, r.hide, fun b hb => r.apart b (own_weak hb hn), fun j l d e a e1 e2 e3 e4 => ?_, fun j t e => ?_⟩, fr⟩
  · have back : ∀ {j : Nat} {d : D}, (setS δ i s)[j]? = some (.ow d) → δ[j]? = some (.ow d) := fun {j d} e => by
      rw [setS_eq] at e
      by_cases hj : i = j
      · subst hj
        by_cases hl : i < δ.length
        · rw [List.getElem?_set_self hl] at e
          cases e
          exact absurd rfl (hn d)
        · rw [List.getElem?_eq_none (by simpa using hl)] at e
          cases e
      · rw [List.getElem?_set_ne hj] at e
        exact e
    exact r.inj j l d e a (back e1) (back e2) e3 e4
  · have e' := e
    rw [setS_eq] at e'
    by_cases hj : i = j
    · subst hj
      have hlt : i < δ.length := by
        by_cases q : i < δ.length
        · exact q
        · rw [List.getElem?_eq_none (by simpa using q)] at e'
          cases e'
      rw [List.getElem?_set_self hlt] at e'
      cases e'
      refine hs _ fr fun o ho e0 e1 ⟨d, e2⟩ => cut_some.mpr ⟨fun z => ?_, e0⟩
      rcases z with z | z
      · obtain ⟨l, d2, z1, z2⟩ := z
        rw [setS_eq] at z1
        by_cases hl : i = l
        · subst hl
          rw [List.getElem?_set_self hlt] at z1
          cases z1
          exact absurd rfl (hn d2)
        · rw [List.getElem?_set_ne hl] at z1
          exact hl (r.inj i l d d2 a e2 z1 e1 z2)
      · exact r.apart a ho z
    · rw [List.getElem?_set_ne hj] at e'
      exact (r.sl j t e').same (Same.refl H) fr
theorem DRel.forget1 (r : DRel K B H δ σ) : DRel K B H (setS δ i .un) σ ∧ Same (Frz B H δ σ) (Frz B H (setS δ i .un) σ) := r.weak (a := 0) (fun d e => by cases e) fun _ _ _ => trivial
theorem DRel.forget (r : DRel K B H δ σ) : ∀ is : List Nat, DRel K B H (forget is δ) σ ∧ Same (Frz B H δ σ) (Frz B H (forget is δ) σ)
  | [] => by
    rw [forget_nil]
    exact ⟨r, Same.refl _⟩
  | i :: is => by
    rw [forget_cons]
    obtain ⟨r1, s1⟩ := DRel.forget r is
    obtain ⟨r2, s2⟩ := r1.forget1 (i := i)
    exact ⟨r2, s1.trans s2⟩
theorem DRel.frzSh (r : DRel K B H δ σ) (h : getS δ i = .ow d) : DRel K B H (setS δ i (.sh d)) σ ∧ Same (Frz B H δ σ) (Frz B H (setS δ i (.sh d)) σ) := by
  have hi := getS_some h (fun z => nomatch z)
  obtain ⟨a, e, n, o⟩ := r.sl i _ hi
  refine r.weak (a := a) (fun d e => by cases e) fun Z sm up => ⟨.ref a, e, ?_⟩
  exact OwnRep.toN (H := H) (o.same (fun _ z => z) sm) fun u hu => up u ⟨i, d, hi, e⟩ hu e ⟨d, hi⟩
theorem DRel.frzFr (r : DRel K B H δ σ) (h : getS δ i = .ow d) (hI : d.immIn = true) : DRel K B H (setS δ i (.fr d)) σ ∧ Same (Frz B H δ σ) (Frz B H (setS δ i (.fr d)) σ) := by
  have hi := getS_some h (fun z => nomatch z)
  obtain ⟨a, e, n, o⟩ := r.sl i _ hi
  refine r.weak (a := a) (fun d e => by cases e) fun Z sm up => ⟨.ref a, e, ?_⟩
  exact OwnRep.toR (H := H) (o.same (fun _ z => z) sm) n (fun u hu => up u ⟨i, d, hi, e⟩ hu e ⟨d, hi⟩) hI
/-- a slot's own list is changed -/
theorem DRel.mut {o' : HO} (r : DRel K B H δ σ) (hi : δ[i]? = some (Sl.ow d)) (hσ : σ[i]? = some (some (.ref a))) (hd : OwnRep K (upd H a o') (Frz B H δ σ) a d') :
    DRel K B (upd H a o') (setS δ i (.ow d')) σ ∧ Same (Frz B H δ σ) (Frz B (upd H a o') (setS δ i (.ow d')) σ) := by
  have hown0 : OwnA δ σ a := ⟨i, d, hi, hσ⟩
  have hown : Hid B δ σ a := .inl hown0
  have hlt : i < δ.length := (List.getElem?_eq_some_iff.mp hi).1
  have own0 : ∀ b, OwnA (setS δ i (.ow d')) σ b → OwnA δ σ b := fun b ⟨j, e, z1, z2⟩ => by
    rw [setS_eq] at z1
    by_cases hj : i = j
    · subst hj
      exact ⟨i, d, hi, z2⟩
    · rw [List.getElem?_set_ne hj] at z1
      exact ⟨j, e, z1, z2⟩
  have own : ∀ b, Hid B (setS δ i (.ow d')) σ b → Hid B δ σ b := fun b z => z.imp (own0 b) id
  have fr : Same (Frz B H δ σ) (Frz B (upd H a o') (setS δ i (.ow d')) σ) := fun b o hb => by
    obtain ⟨z1, z2⟩ := cut_some.mp hb
    refine cut_some.mpr ⟨fun z => z1 (own b z), ?_⟩
    rw [upd_ne (fun e => z1 (by rw [e]; exact hown))]
    exact z2
  refine ⟨⟨by rw [setS_eq, List.length_set]; exact r.len, fun b o hb => ?_, fun b hb => ?_, fun b hb => r.apart b (own0 b hb), fun j l e f a' e1 e2 e3 e4 => ?_, fun j t e => ?_⟩, fr⟩
  · rw [upd_ne (fun e => by
      rw [e, (r.own hown).1] at hb
      cases hb)]
    exact r.base b o hb
  · obtain ⟨z1, o, z2, z3⟩ := r.hide b hb
    refine ⟨z1, o, ?_, z3⟩
    rw [upd_ne (fun e => r.apart a hown0 (by rw [← e]; exact hb))]
    exact z2
  · have back : ∀ {j : Nat} {e : D}, (setS δ i (.ow d'))[j]? = some (.ow e) → ∃ e', δ[j]? = some (Sl.ow e') := fun {j e} q => by
      rw [setS_eq] at q
      by_cases hj : i = j
      · subst hj
        exact ⟨d, hi⟩
      · rw [List.getElem?_set_ne hj] at q
        exact ⟨e, q⟩
    obtain ⟨_, q1⟩ := back e1
    obtain ⟨_, q2⟩ := back e2
    exact r.inj j l _ _ a' q1 q2 e3 e4
  · have e' := e
    rw [setS_eq] at e'
    by_cases hj : i = j
    · subst hj
      rw [List.getElem?_set_self hlt] at e'
      cases e'
      exact ⟨a, hσ, (r.own hown).1, hd.same (fun _ z => z) fr⟩
    · rw [List.getElem?_set_ne hj] at e'
      have q := r.sl j t e'
      cases t with
      | un => trivial
      | sh e =>
        obtain ⟨w, z1, z2⟩ := q
        exact ⟨w, z1, z2.same fr⟩
      | fr e =>
        obtain ⟨w, z1, z2⟩ := q
        exact ⟨w, z1, z2.same fr⟩
      | ow f =>
        obtain ⟨b, z1, z2, z3⟩ := q
        refine ⟨b, z1, z2, z3.same (fun o z => ?_) fr⟩
        have nb : b ≠ a := fun q => hj (r.inj i j d f a hi e' hσ (by rw [← q]; exact z1))
        rw [upd_ne nb]
        exact z
      | ex y b f =>
        obtain ⟨z1, z2⟩ := q
        exact ⟨z1, fr _ _ z2⟩
end
end DL

set_option Elab.async false
set_option linter.all false
set_option maxRecDepth 100000
namespace DL
open PySem PySem.Spec PyProof.Rows L2

section
variable {X : Cx} {W : WX} {a b c e o : Expr} {es : List Expr} {ta tb tc tk : ET} {t u : ST} {ba : BT} {pos pos' : Pos} {st : Stmt} {sts : List Stmt}

def sNext : ST := fun E δ => E.nx δ
def sSeq (t u : ST) : ST := fun E δ => t { E with nx := u E } δ
theorem dss_nil : DSs X W [] sNext := PSs.imp pss_nil fun N σ H ⟨B, δ, E, r, h, nx, _⟩ => nx δ σ H r (Same.refl _) h
theorem dss_cons (h1 : DS X W st t) (h2 : DSs X W sts u) : DSs X W (st :: sts) (sSeq t u) := PSs.imp (pss_cons h1 h2) fun N σ H ⟨B, δ, E, r, h, nx, rt, bk, ct, xe⟩ =>
  ⟨B, δ, { E with nx := u E }, r, h, fun δ' σ' H' r' s' h' => ⟨B, δ', E, r', h', fun δ2 σ2 H2 r2 s2 => nx δ2 σ2 H2 r2 (s'.trans s2), rt, fun δ2 σ2 H2 r2 s2 => bk δ2 σ2 H2 r2 (s'.trans s2), fun δ2 σ2 H2 r2 s2 => ct δ2 σ2 H2 r2 (s'.trans s2), fun cls dx δ2 σ2 H2 x r2 s2 => xe cls dx δ2 σ2 H2 x r2 (s'.trans s2)⟩, rt, bk, ct, xe⟩
theorem dss_one (h1 : DS X W st t) : DSs X W [st] t := pss_one h1
theorem ds_pass : DS X W (.Pass pos) sNext := PS.imp ps_pass fun N σ H ⟨B, δ, E, r, h, nx, _⟩ => nx δ σ H r (Same.refl _) h
theorem ds_doc {x j} : DS X W (.Expr (.Constant (.str x) j pos) pos') sNext := PS.imp ps_doc fun N σ H ⟨B, δ, E, r, h, nx, _⟩ => nx δ σ H r (Same.refl _) h
def sBreak : ST := fun E δ => E.bk δ
def sCont : ST := fun E δ => E.ct δ
theorem ds_break : DS X W (.Break pos) sBreak := PS.imp ps_break fun N σ H ⟨B, δ, E, r, h, nx, rt, bk, ct, xe⟩ => bk δ σ H r (Same.refl _) h
theorem ds_cont : DS X W (.Continue pos) sCont := PS.imp ps_continue fun N σ H ⟨B, δ, E, r, h, nx, rt, bk, ct, xe⟩ => ct δ σ H r (Same.refl _) h

/-! ### weaker slots ahead of a statement -/
theorem lift_weak {K : PySem.W.Frag} {t : ST} {N : Ends} {B : Bs} {H : Hp} {δ δ1 : DSt} {σ : St} {E : En} (r : DRel K B H δ1 σ ∧ Same (Frz B H δ σ) (Frz B H δ1 σ)) (h : t E δ1)
    (rest : (∀ δ' σ' H', DRel K B H' δ' σ' → Same (Frz B H δ σ) (Frz B H' δ' σ') → E.nx δ' → N.nx σ' H') ∧
      (∀ v H' d, Same B.hp H' → (Rep K H' (some B.hp) d v ∨ E.lent ∧ LentR K B.hp H' d v) → E.rt d → N.rt v H') ∧
      (∀ δ' σ' H', DRel K B H' δ' σ' → Same (Frz B H δ σ) (Frz B H' δ' σ') → E.bk δ' → N.bk σ' H') ∧
      (∀ δ' σ' H', DRel K B H' δ' σ' → Same (Frz B H δ σ) (Frz B H' δ' σ') → E.ct δ' → N.ct σ' H') ∧
      ∀ cls dx δ' σ' H' x, DRel K B H' δ' σ' → Same (Frz B H δ σ) (Frz B H' δ' σ') → XRep K H' cls dx x → E.xe x δ' → W cls dx σ' H') : LiftS K W t N σ H := by
  obtain ⟨nx, rt, bk, ct, xe⟩ := rest
  exact ⟨B, δ1, E, r.1, h, fun δ2 σ2 H2 r2 s2 => nx δ2 σ2 H2 r2 (r.2.trans s2), rt, fun δ2 σ2 H2 r2 s2 => bk δ2 σ2 H2 r2 (r.2.trans s2), fun δ2 σ2 H2 r2 s2 => ct δ2 σ2 H2 r2 (r.2.trans s2), fun cls dx δ2 σ2 H2 x r2 s2 => xe cls dx δ2 σ2 H2 x r2 (r.2.trans s2)⟩
/-- slot i's own list is let go -/
def sFrz (i : Nat) (t : ST) : ST := fun E δ => match getS δ i with
  | .ow d => t E (setS δ i (.sh d))
  | _ => t E δ
def sFrzF (i : Nat) (t : ST) : ST := fun E δ => match getS δ i with
  | .ow d => d.immIn = true ∧ t E (setS δ i (.fr d))
  | _ => t E δ
theorem frz_ok {K : PySem.W.Frag} {i : Nat} {N : Ends} {σ : St} {H : Hp} (h : LiftS K W (sFrz i t) N σ H) : LiftS K W t N σ H := by
  obtain ⟨B, δ, E, r, h, rest⟩ := h
  unfold sFrz at h
  split at h
  · rename_i d e
    exact lift_weak (r.frzSh e) h rest
  · exact ⟨B, δ, E, r, h, rest⟩
theorem frzF_ok {K : PySem.W.Frag} {i : Nat} {N : Ends} {σ : St} {H : Hp} (h : LiftS K W (sFrzF i t) N σ H) : LiftS K W t N σ H := by
  obtain ⟨B, δ, E, r, h, rest⟩ := h
  unfold sFrzF at h
  split at h
  · rename_i d e
    exact lift_weak (r.frzFr e h.1) h.2 rest
  · exact ⟨B, δ, E, r, h, rest⟩
theorem ds_frz (i : Nat) (h : DS X W st t) : DS X W st (sFrz i t) := PS.imp h fun N σ H => frz_ok
theorem ds_frzF (i : Nat) (h : DS X W st t) : DS X W st (sFrzF i t) := PS.imp h fun N σ H => frzF_ok
def sForget (is : List Nat) (t : ST) : ST := fun E δ => t E (forget is δ)
theorem ds_forget (is : List Nat) (h : DS X W st t) : DS X W st (sForget is t) := PS.imp h fun N σ H ⟨B, δ, E, r, h, rest⟩ => lift_weak (r.forget is) h rest

/-! ### a name is stored -/
def slot (E : En) (δ : DSt) (i : Nat) : Tg → D → Prop
  | .fz, d => E.nx (setS δ i (.sh d))
  | .fr, d => E.nx (setS δ i (.fr d))
  | .nw, d => E.nx (setS δ i (.ow d))
  | .bo, _ => False
def sSet (i : Nat) (t : ET) : ST := fun E δ => t (fun x => E.xe x δ) δ (slot E δ i)
theorem slot_ok {K : PySem.W.Frag} {B : Bs} {H H' : Hp} {δ : DSt} {σ : St} {E : En} {i : Nat} {g : Tg} {d : D} {v : V} {P : St → Hp → Prop} (r : DRel K B H δ σ) (s : Same H H') (R : Res K B H H' δ σ g d v) (h : slot E δ i g d)
    (nx : ∀ δ' σ' H', DRel K B H' δ' σ' → Same (Frz B H δ σ) (Frz B H' δ' σ') → E.nx δ' → P σ' H') : P (σ.set i (some v)) H' := by
  cases g with
  | fz =>
    obtain ⟨r', s'⟩ := (r.ext s).putSh (i := i) R
    exact nx _ _ _ r' ((DRel.frz_ext s).trans s') h
  | fr =>
    obtain ⟨r', s'⟩ := (r.ext s).putFr (i := i) R
    exact nx _ _ _ r' ((DRel.frz_ext s).trans s') h
  | nw =>
    obtain ⟨a, rfl, n, o⟩ := R
    obtain ⟨r', s'⟩ := r.putOw (i := i) s n o
    exact nx _ _ _ r' s' h
  | bo => exact h.elim
theorem ds_set (i : Nat) {x : Str} (he : DE X W e ta) (hN : X.N.Nodup) (hi : X.N[i]? = some x := by rfl) (hx : Loc X.env.scope x := by first | exact .inl rfl | exact .inr rfl) (hs : swapsWith e (some (.Name x pos')) pos.line X.env = pure false := by rfl) (hf : X.fn x = true ∨ X.env.scope.names.lookup x = some .local := by first | exact .inl rfl | exact .inr rfl | assumption) :
    DS X W (.Assign [.Name x pos'] e pos) (sSet i ta) := PS.imp (ps_set hN hi hx he hs hf) fun N σ H ⟨B, δ, E, r, h, nx, rt, bk, ct, xe⟩ =>
  ⟨B, δ, fun x => E.xe x δ, _, r, h, fun v H' g d s R hq => slot_ok r s R hq nx, fun cls dx H' x s xr hx => xe cls dx δ σ H' x (r.ext s) (DRel.frz_ext s) xr hx⟩

/-! ### return, if, an expression -/
def retTg : Tg → D → Bool
  | .fz, d => d.imm
  | .fr, _ => true
  | .nw, d => d.immIn
  | .bo, d => d.immIn
def sRet (t : ET) : ST := fun E δ => t (fun x => E.xe x δ) δ fun g d => retTg g d = true ∧ E.rt d
theorem ret_ok {K : PySem.W.Frag} {B : Bs} {H H' : Hp} {δ : DSt} {σ : St} {g : Tg} {d : D} {v : V} (r : DRel K B H δ σ) (R : Res K B H H' δ σ g d v) (hg : retTg g d = true) : Rep K H' (some B.hp) d v := by
  cases g with
  | fz => exact Rep.same (cut_le _ _) (Rep.imm d v hg R)
  | fr => exact Rep.same (cut_le _ _) R
  | nw =>
    obtain ⟨a, rfl, n, o⟩ := R
    exact Rep.same (cut_le _ _) (nw_fr (r.noB n) hg (r.notOwn n) o)
  | bo =>
    obtain ⟨a, rfl, n, o, _⟩ := R
    exact OwnRep.toR (H := H') (o.same (fun _ z => z) (cut_le _ _)) n (fun _ z => z) hg
theorem ds_ret (he : DE X W e ta) : DS X W (.Return (some e) pos) (sRet ta) := PS.imp (ps_ret he) fun N σ H ⟨B, δ, E, r, h, nx, rt, bk, ct, xe⟩ =>
  ⟨B, δ, fun x => E.xe x δ, _, r, h, fun v H' g d s R hq => rt v H' d (r.base.trans s) (.inl (ret_ok r R hq.1)) hq.2, fun cls dx H' x s xr hx => xe cls dx δ σ H' x (r.ext s) (DRel.frz_ext s) xr hx⟩
def sRetN : ST := fun E _ => E.rt .non
theorem ds_retN : DS X W (.Return none pos) sRetN := PS.imp ps_retN fun N σ H ⟨B, δ, E, r, h, nx, rt, bk, ct, xe⟩ => rt .non H .non r.base (.inl rfl) h
def sIf (b : BT) (t u : ST) : ST := fun E δ => b (fun x => E.xe x δ) δ fun k => if k = true then t E δ else u E δ
theorem ds_if {A C : List Stmt} (hc : DT X W c ba) (ha : DSs X W A t) (hb : DSs X W C u) : DS X W (.If c A C pos) (sIf ba t u) := PS.imp (ps_if hc ha hb) fun N σ H ⟨B, δ, E, r, h, nx, rt, bk, ct, xe⟩ => by
  refine ⟨B, δ, fun x => E.xe x δ, _, r, h, fun k H' s hq => ?_, fun cls dx H' x s xr hx => xe cls dx δ σ H' x (r.ext s) (DRel.frz_ext s) xr hx⟩
  have sf : Same (Frz B H δ σ) (Frz B H' δ σ) := DRel.frz_ext s
  cases k with
  | true =>
    rw [if_pos rfl] at hq
    show LiftS X.K W t N σ H'
    exact ⟨B, δ, E, r.ext s, hq, fun δ2 σ2 H2 r2 s2 => nx δ2 σ2 H2 r2 (sf.trans s2), rt, fun δ2 σ2 H2 r2 s2 => bk δ2 σ2 H2 r2 (sf.trans s2), fun δ2 σ2 H2 r2 s2 => ct δ2 σ2 H2 r2 (sf.trans s2), fun cls dx δ2 σ2 H2 x r2 s2 => xe cls dx δ2 σ2 H2 x r2 (sf.trans s2)⟩
  | false =>
    rw [if_neg Bool.false_ne_true] at hq
    show LiftS X.K W u N σ H'
    exact ⟨B, δ, E, r.ext s, hq, fun δ2 σ2 H2 r2 s2 => nx δ2 σ2 H2 r2 (sf.trans s2), rt, fun δ2 σ2 H2 r2 s2 => bk δ2 σ2 H2 r2 (sf.trans s2), fun δ2 σ2 H2 r2 s2 => ct δ2 σ2 H2 r2 (sf.trans s2), fun cls dx δ2 σ2 H2 x r2 s2 => xe cls dx δ2 σ2 H2 x r2 (sf.trans s2)⟩
def sExpr (t : ET) : ST := fun E δ => t (fun x => E.xe x δ) δ fun _ _ => E.nx δ
theorem ds_expr (he : DE X W e ta) (hs : swapsWith e none pos.line X.env = pure false := by rfl) : DS X W (.Expr e pos) (sExpr ta) := PS.imp (ps_expr he hs) fun N σ H ⟨B, δ, E, r, h, nx, rt, bk, ct, xe⟩ =>
  ⟨B, δ, fun x => E.xe x δ, _, r, h, fun v H' g d s R hq => nx δ σ H' (r.ext s) (DRel.frz_ext s) hq, fun cls dx H' x s xr hx => xe cls dx δ σ H' x (r.ext s) (DRel.frz_ext s) xr hx⟩

/-! ### a slot's own list grows and shrinks -/
/-- the slot's own list, its own dict -/
def ownL (δ : DSt) (i : Nat) (P : List D → Prop) : Prop := match getS δ i with
  | .ow (.lst ds) => P ds
  | _ => False
theorem ownL_of {δ : DSt} {i : Nat} {P : List D → Prop} (h : ownL δ i P) : ∃ ds, getS δ i = .ow (.lst ds) ∧ P ds := by
  unfold ownL at h
  split at h
  · rename_i ds e
    exact ⟨ds, e, h⟩
  · exact h.elim
theorem DRel.lst {K : PySem.W.Frag} {B : Bs} {H : Hp} {δ : DSt} {σ : St} {i : Nat} {ds : List D} (r : DRel K B H δ σ) (h : getS δ i = .ow (.lst ds)) : ∃ a vs, δ[i]? = some (Sl.ow (.lst ds)) ∧ σ[i]? = some (some (V.ref a)) ∧ H a = some (.lst vs) ∧ RepA K (Frz B H δ σ) none ds vs := by
  have hi := getS_some h (fun z => nomatch z)
  obtain ⟨a, ea, nB, vs, e1, e2⟩ := r.sl i _ hi
  exact ⟨a, vs, hi, ea, e1, e2⟩
theorem DRel.dic {K : PySem.W.Frag} {B : Bs} {H : Hp} {δ : DSt} {σ : St} {i : Nat} {ds : List (Key × D)} (r : DRel K B H δ σ) (h : getS δ i = .ow (.dic ds)) : ∃ a vs, δ[i]? = some (Sl.ow (.dic ds)) ∧ σ[i]? = some (some (V.ref a)) ∧ H a = some (.dK vs) ∧ RepK K (Frz B H δ σ) none ds vs := by
  have hi := getS_some h (fun z => nomatch z)
  obtain ⟨a, ea, nB, vs, e1, e2⟩ := r.sl i _ hi
  exact ⟨a, vs, hi, ea, e1, e2⟩
def sApp (i : Nat) (t : ET) : ST := fun E δ => ownL δ i fun ds => t (fun x => E.xe x δ) δ fun g d => g.put (ds.length < sizeLine ∧ E.nx (setS δ i (.ow (.lst (ds ++ [d])))))
theorem ds_app (i : Nat) {x : Str} {xpos apos cpos : Pos} (he : DE X W e ta) (hN : X.N[i]? = some x := by rfl) (hv : Vis X.env.scope x := by first | exact Or.inl rfl | exact Or.inr (Or.inl rfl) | exact Or.inr (Or.inr rfl)) (hd : (x == ("__debug__" : Str)) = false := by decide)
    (hcd : (x == ("__classdict__" : Str)) = false := by decide) (hbase : attributeBase (.Name x xpos) "append" X.env (eval (.Name x xpos) X.env) = eval (.Name x xpos) X.env := by rfl)
    (hfew : ((backTo cpos (starEach [e] X.env)).all (fun x => !x.1) && (backToKw cpos (keywordEach [] X.env)).all (fun x => x.1.isSome)
      && decide ([e].length + ([] : List Keyword).length + (if ([] : List Keyword).isEmpty then 0 else 1) < 30)) = true := by rfl)
    (hline : (apos.endLine == cpos.line) = true := by rfl) (hs : starEach [e] X.env = (false, eval e X.env) :: starEach [] X.env := by rfl) (hplain : (backTo cpos (starEach [] X.env)).any (·.1) = false := by rfl)
    (hsw : swapsWith (.Call (.Attribute (.Name x xpos) "append" apos) [e] [] cpos) none pos.line X.env = pure false := by rfl) :
    DS X W (.Expr (.Call (.Attribute (.Name x xpos) "append" apos) [e] [] cpos) pos) (sApp i ta) :=
  PS.imp (ps_expr (pe_bm PySem.F.plainAttrs_list PySem.F.slot_list_append PySem.F.type_list_append (mt_append (X := X)) (pv i hN hv hd hcd) (pa_cons he pa_nil hs) hbase hfew hline hs hplain) hsw) fun N σ H ⟨B, δ, E, r, h, nx, rt, bk, ct, xe⟩ => by
  obtain ⟨ds, hg, h⟩ := ownL_of h
  obtain ⟨a, vs, hi, ea, e1, e2⟩ := r.lst hg
  refine ⟨.ref a, ea, .inl ⟨rfl, vs, .inl (.inl e1)⟩, ?_⟩
  refine ⟨B, δ, fun x => E.xe x δ, _, r, h, fun v H' g d s R hq => ?_, fun cls dx H' x s xr hx => xe cls dx δ σ H' x (r.ext s) (DRel.frz_ext s) xr hx⟩
  obtain ⟨gb, hq⟩ := Tg.put_ne hq
  refine ⟨a, vs, v, rfl, rfl, s _ _ e1, by rw [e2.len]; exact hq.1, ?_⟩
  obtain ⟨r', s'⟩ := (r.ext s).mut (o' := .lst (vs ++ [v])) (d' := .lst (ds ++ [d])) hi ea ⟨_, upd_same, (RepA.same (DRel.frz_ext s) e2).app (.one (R.toZ r gb))⟩
  exact nx _ _ _ r' ((DRel.frz_ext s).trans s') hq.2

/-! ### targets (what is evaluated in them raises nothing) -/
end
/-- what comes to a target: a tuple that is only to be taken apart, or another value; a value; one that is new since the def's entry -/
inductive Gv where
  | wk | sh | fr
def Gv.within : Gv → Gv
  | .fr => .fr
  | _ => .sh
def RepW (K : PySem.W.Frag) (Z : Hp) (d : D) (v : V) : Prop := Rep K Z none d v ∨ ∃ T vs ds, v = .ref T ∧ d = .tup ds ∧ SqT K Z T vs ∧ RepA K Z none ds vs
def GvR (K : PySem.W.Frag) (B Z : Hp) : Gv → D → V → Prop
  | .wk, d, v => RepW K Z d v
  | .sh, d, v => Rep K Z none d v
  | .fr, d, v => Rep K Z (some B) d v
def GvRs (K : PySem.W.Frag) (B Z : Hp) : Gv → List D → List V → Prop
  | .fr, d, v => RepA K Z (some B) d v
  | _, d, v => RepA K Z none d v
/-- no tuple -/
def D.noTup : D → Bool
  | .tup _ => false
  | _ => true
theorem GvR.any {K : PySem.W.Frag} {B Z : Hp} {f : Gv} {d : D} {v : V} (h : GvR K B Z f d v) (n : f = .wk → d.noTup = true) : Rep K Z none d v := by
  cases f with
  | wk =>
    rcases h with h | ⟨T, vs, ds, _, e, _⟩
    · exact h
    · subst e
      exact absurd (n rfl) Bool.false_ne_true
  | sh => exact h
  | fr => exact Rep.any h
theorem GvRs.any {K : PySem.W.Frag} {B Z : Hp} {f : Gv} {d : List D} {v : List V} (h : GvRs K B Z f d v) : RepA K Z none d v := by
  cases f with
  | wk => exact h
  | sh => exact h
  | fr => exact RepA.any h
theorem GvRs.same {K : PySem.W.Frag} {B Z Z' : Hp} {f : Gv} {d : List D} {v : List V} (s : Same Z Z') (h : GvRs K B Z f d v) : GvRs K B Z' f d v := by
  cases f with
  | wk => exact RepA.same s h
  | sh => exact RepA.same s h
  | fr => exact RepA.same s h
abbrev GT := Gv → D → DSt → (DSt → Prop) → Prop
abbrev GTs := Gv → List D → DSt → (DSt → Prop) → Prop
/-- a wish that nothing is raised -/
abbrev W0 : WX := fun _ _ _ _ => False
abbrev xn : XQ := fun _ => False
/-- none of these slots has a list of its own -/
def noOw : List Nat → DSt → Prop
  | [], _ => True
  | i :: r, δ => (match getS δ i with | .ow _ => False | _ => True) ∧ noOw r δ
/-- all slots but those at ws are as they were (1000 at ws: an own list may be changed) -/
structure But (ws : List Nat) (δ δ' : DSt) (σ σ' : St) (H H' : Hp) : Prop where
  len : σ'.length = σ.length
  at_ : ∀ j, j ∉ ws → σ'[j]? = σ[j]?
  heap : 1000 ∉ ws → Same H H'
  own : ∀ vs, noOw vs δ → (∀ j ∈ ws, j ∈ vs) → noOw vs δ' ∧ ∀ a, OwnA δ σ a → OwnA δ' σ' a
def LiftG (K : PySem.W.Frag) (ws : List Nat) (t : GT) : TG := fun v σ H Q => ∃ B δ f d q, DRel K B H δ σ ∧ GvR K B.hp (Frz B H δ σ) f d v ∧ t f d δ q ∧
  (∀ δ' σ' H', DRel K B H' δ' σ' → Same (Frz B H δ σ) (Frz B H' δ' σ') → But ws δ δ' σ σ' H H' → q δ' → Q σ' H')
def LiftGs (K : PySem.W.Frag) (ws : List Nat) (t : GTs) : TGs := fun vs σ H Q => ∃ B δ f ds q, DRel K B H δ σ ∧ GvRs K B.hp (Frz B H δ σ) f ds vs ∧ t f ds δ q ∧
  (∀ δ' σ' H', DRel K B H' δ' σ' → Same (Frz B H δ σ) (Frz B H' δ' σ') → But ws δ δ' σ σ' H H' → q δ' → Q σ' H')
abbrev DG (X : Cx) (ws : List Nat) (e : Expr) (t : GT) : Prop := PG X e (LiftG X.K ws t)
abbrev DGs (X : Cx) (ws : List Nat) (es : List Expr) (t : GTs) : Prop := PGs X es (LiftGs X.K ws t)
theorem PG.imp {X : Cx} {e : Expr} {t t' : TG} (h : PG X e t) (i : ∀ v σ H Q, t' v σ H Q → t v σ H Q) : PG X e t' := ⟨fun pins s σ H v u Q I r w => h.run pins s σ H v u Q I r (i v σ H Q w)⟩
theorem PGs.imp {X : Cx} {e : List Expr} {t t' : TGs} (h : PGs X e t) (i : ∀ v σ H Q, t' v σ H Q → t v σ H Q) : PGs X e t' := ⟨fun pins s σ H v u Q I r w => h.run pins s σ H v u Q I r (i v σ H Q w)⟩
section
variable {X : Cx} {W : WX} {a b c e o : Expr} {es : List Expr} {ta tb tc tk : ET} {t u : ST} {ba : BT} {pos pos' : Pos} {st : Stmt} {sts : List Stmt} {g : GT} {gs : GTs} {ws ws' : List Nat}
def tName (i : Nat) : GT := fun f d δ q => match f with
  | .fr => q (setS δ i (.fr d))
  | .sh => q (setS δ i (.sh d))
  | .wk => d.noTup = true ∧ q (setS δ i (.sh d))
theorem noOw_set {i : Nat} {s : Sl} (hs : ∀ d, s ≠ .ow d) {δ : DSt} : ∀ vs : List Nat, noOw vs δ → noOw vs (setS δ i s)
  | [], _ => trivial
  | j :: vs, h => by
    refine ⟨?_, noOw_set hs vs h.2⟩
    rw [getS_at, setS_eq]
    by_cases e : i = j
    · subst e
      by_cases hl : i < δ.length
      · rw [List.getElem?_set_self hl]
        cases s with
        | ow d => exact absurd rfl (hs d)
        | un => trivial
        | sh d => trivial
        | fr d => trivial
        | ex _ _ _ => trivial
      · rw [List.getElem?_eq_none (by simpa using hl)]
        trivial
    · rw [List.getElem?_set_ne e, ← getS_at]
      exact h.1
theorem noOw_mem {δ : DSt} {j : Nat} {d : D} : ∀ {vs : List Nat}, noOw vs δ → j ∈ vs → getS δ j ≠ .ow d
  | [], _, h => by cases h
  | i :: vs, n, h => fun e => by
    rcases List.mem_cons.mp h with rfl | h
    · have := n.1
      rw [e] at this
      exact this
    · exact noOw_mem n.2 h e
theorem but_set {δ : DSt} (i : Nat) (s : Sl) (hs : ∀ d, s ≠ .ow d) (σ : St) (v : Option V) (H : Hp) : But [i] δ (setS δ i s) σ (σ.set i v) H H := by
  refine ⟨by rw [List.length_set], fun j hj => List.getElem?_set_ne fun e => hj (by simp [e]), fun _ => Same.refl H, fun vs n hv => ⟨noOw_set hs vs n, fun a ⟨j, d, e1, e2⟩ => ?_⟩⟩
  have hj : i ≠ j := fun e => by
    subst e
    exact noOw_mem (d := d) n (hv i (by simp)) (by rw [getS_at, e1] <;> rfl)
  exact ⟨j, d, by rw [setS_eq, List.getElem?_set_ne hj]; exact e1, by rw [List.getElem?_set_ne hj]; exact e2⟩
theorem But.refl (ws : List Nat) (δ : DSt) (σ : St) (H : Hp) : But ws δ δ σ σ H H := ⟨rfl, fun _ _ => rfl, fun _ => Same.refl H, fun vs n _ => ⟨n, fun _ z => z⟩⟩
theorem But.app {ws ws' : List Nat} {δ δ1 δ2 : DSt} {σ σ1 σ2 : St} {H H1 H2 : Hp} (a : But ws δ δ1 σ σ1 H H1) (b : But ws' δ1 δ2 σ1 σ2 H1 H2) : But (ws ++ ws') δ δ2 σ σ2 H H2 :=
  ⟨b.1.trans a.1, fun j hj => (b.2 j fun z => hj (List.mem_append_right _ z)).trans (a.2 j fun z => hj (List.mem_append_left _ z)), fun h => (a.3 fun z => h (List.mem_append_left _ z)).trans (b.3 fun z => h (List.mem_append_right _ z)),
    fun vs n hv => by
      obtain ⟨n1, o1⟩ := a.4 vs n fun j hj => hv j (List.mem_append_left _ hj)
      obtain ⟨n2, o2⟩ := b.4 vs n1 fun j hj => hv j (List.mem_append_right _ hj)
      exact ⟨n2, fun x hx => o2 x (o1 x hx)⟩⟩
theorem but_mut {δ : DSt} {i : Nat} {d d' : D} (hg : getS δ i = .ow d) (σ : St) (H H' : Hp) : But [1000] δ (setS δ i (.ow d')) σ σ H H' := by
  refine ⟨rfl, fun _ _ => rfl, fun z => absurd (by simp) z, fun vs n _ => ⟨?_, fun a ⟨j, e, e1, e2⟩ => ?_⟩⟩
  · have go : ∀ us : List Nat, noOw us δ → noOw us (setS δ i (.ow d')) := by
      intro us
      induction us with
      | nil => intro _; trivial
      | cons j us ih =>
        intro n
        have hj : i ≠ j := fun e => noOw_mem (d := d) n (show i ∈ j :: us by simp [e]) hg
        refine ⟨?_, ih n.2⟩
        rw [getS_at, setS_eq, List.getElem?_set_ne hj, ← getS_at]
        exact n.1
    exact go vs n
  · by_cases hj : i = j
    · subst hj
      exact ⟨i, d', by rw [setS_eq, List.getElem?_set_self (List.getElem?_eq_some_iff.mp e1).1], e2⟩
    · exact ⟨j, e, by rw [setS_eq, List.getElem?_set_ne hj]; exact e1, e2⟩
theorem dg_name (i : Nat) {x : Str} (hN : X.N.Nodup) (hi : X.N[i]? = some x := by rfl) (hx : Loc X.env.scope x := by first | exact .inl rfl | exact .inr rfl) (hf : X.fn x = true ∨ X.env.scope.names.lookup x = some .local := by first | exact .inl rfl | exact .inr rfl | assumption) : DG X [i] (.Name x pos) (tName i) :=
  PG.imp (pg_name hN hi hx hf) fun v σ H Q ⟨B, δ, f, d, q, r, R, h, ok⟩ => by
  cases f with
  | wk =>
    obtain ⟨r', s'⟩ := r.putSh (i := i) (R.any fun _ => h.1)
    exact ok _ _ _ r' s' (but_set i _ (fun _ z => by cases z) _ _ _) h.2
  | sh =>
    obtain ⟨r', s'⟩ := r.putSh (i := i) R
    exact ok _ _ _ r' s' (but_set i _ (fun _ z => by cases z) _ _ _) h
  | fr =>
    obtain ⟨r', s'⟩ := r.putFr (i := i) R
    exact ok _ _ _ r' s' (but_set i _ (fun _ z => by cases z) _ _ _) h
def tsNil : GTs := fun _ ds δ q => match ds with
  | [] => q δ
  | _ => False
def tsCons (t : GT) (r : GTs) : GTs := fun f ds δ q => match ds with
  | d :: ds => t f.within d δ fun δ' => r f ds δ' q
  | [] => False
theorem dgs_nil : DGs X [] [] tsNil := PGs.imp pgs_nil fun vs σ H Q ⟨B, δ, f, ds, q, r, R, h, ok⟩ => by
  cases ds with
  | nil =>
    cases (show vs = [] from R.any)
    exact ⟨rfl, ok _ _ _ r (Same.refl _) (But.refl _ _ _ _) h⟩
  | cons d ds => exact h.elim
theorem dgs_cons (h1 : DG X ws e g) (h2 : DGs X ws' es gs) (hs : (assignEach (e :: es) X.env).map (·.2) = assign e X.env :: (assignEach es X.env).map (·.2) := by rfl) : DGs X (ws ++ ws') (e :: es) (tsCons g gs) :=
  PGs.imp (pgs_cons h1 h2 hs) fun vs σ H Q ⟨B, δ, f, ds, q, r, R, h, ok⟩ => by
  cases ds with
  | nil => exact h.elim
  | cons d ds =>
    have R' : ∃ v w, vs = v :: w ∧ GvR X.K B.hp (Frz B H δ σ) f.within d v ∧ GvRs X.K B.hp (Frz B H δ σ) f ds w := by
      cases f with
      | wk => exact R
      | sh => exact R
      | fr => exact R
    obtain ⟨v, w, rfl, z1, z2⟩ := R'
    refine ⟨v, w, rfl, B, δ, f.within, d, _, r, z1, h, fun δ' σ' H' r' s' b1 hq => ?_⟩
    exact ⟨B, δ', f, ds, q, r', GvRs.same s' z2, hq, fun δ2 σ2 H2 r2 s2 b2 => ok δ2 σ2 H2 r2 (s'.trans s2) (b1.app b2)⟩
/-- (a, b, ..) of a tuple, of a list -/
def tTup (gs : GTs) : GT := fun f d δ q => match d with
  | .tup ds => gs f ds δ q
  | .ktp ks => gs .sh (ks.map keyToD) δ q
  | _ => False
/-- a tuple's own number of items -/
def fits (n : Nat) (gs : GTs) : GTs := fun f ds δ q => ds.length = n ∧ gs f ds δ q
theorem dg_tup {k : Nat} {n : Nat} (hc : X.calm = true) (h : DGs X ws es gs) (hn : (assignEach es X.env).length = n := by rfl) (hst : (assignEach es X.env).findIdx? (·.1) = none := by rfl) : DG X ws (.Tuple es k pos) (tTup (fits n gs)) :=
  PG.imp (pg_tup hc h hn hst) fun v σ H Q ⟨B, δ, f, d, q, r, R, h, ok⟩ => by
  cases d with
  | tup ds =>
    have R' : ∃ a vs, v = .ref a ∧ SqT X.K H a vs ∧ GvRs X.K B.hp (Frz B H δ σ) f ds vs := by
      cases f with
      | wk =>
        rcases R with ⟨a, vs, e, z1, z2⟩ | ⟨a, vs, es, e, ed, z1, z2⟩
        · exact ⟨a, vs, e, (tp_cut z1).sq, z2⟩
        · cases ed
          exact ⟨a, vs, e, SqT.mono (fun _ _ => rd_cut) z1, z2⟩
      | sh =>
        obtain ⟨a, vs, e, z1, z2⟩ := R
        exact ⟨a, vs, e, (tp_cut z1).sq, z2⟩
      | fr =>
        obtain ⟨a, vs, e, z1, z2⟩ := R
        exact ⟨a, vs, e, (tp_cut z1).sq, z2⟩
    obtain ⟨a, vs, rfl, z1, z2⟩ := R'
    exact ⟨a, vs, rfl, z1, z2.any.len.trans h.1, B, δ, f, ds, q, r, z2, h.2, ok⟩
  | ktp ks =>
    have R' : ∃ a, v = .ref a ∧ Frz B H δ σ a = some (.tup (ks.map kV)) := by
      cases f with
      | wk =>
        rcases R with z | ⟨_, _, _, _, ed, _⟩
        · exact z
        · cases ed
      | sh => exact R
      | fr => exact R
    obtain ⟨a, rfl, z1⟩ := R'
    have z2 : RepA X.K (Frz B H δ σ) none (ks.map keyToD) (ks.map kV) := keys_rep ks
    exact ⟨a, _, rfl, .inl (.inl (cut_some.mp z1).2), z2.len.trans h.1, B, δ, .sh, ks.map keyToD, q, r, z2, h.2, ok⟩
  | _ => exact h.elim
/-- x[k] = .., x a slot's own list or dict -/
def keyD : D → Option Key
  | .int j => some (.inl j)
  | .str s => some (.inr s)
  | _ => none
theorem keyD_rep {K : PySem.W.Frag} {H : Hp} {M : Option Hp} {d : D} {v : V} {c : Key} (h : keyD d = some c) (r : Rep K H M d v) : v = kV c := by
  cases d with
  | int j =>
    cases h
    exact r
  | str j =>
    cases h
    exact r
  | _ => cases h
def rSetD : TSet := fun o i v H Q => ∃ p H', o = .ref p ∧ DPut H p i v H' ∧ Q H'
theorem PSet.or {t t' : TSet} (h : PSet X t) (h' : PSet X t') : PSet X (fun o i v H Q => t o i v H Q ∨ t' o i v H Q) := by
  intro pins s σ H o i v ov iv u Q I r1 r2 r3 q
  rcases q with q | q
  · exact h pins s σ H o i v ov iv u Q I r1 r2 r3 q
  · exact h' pins s σ H o i v ov iv u Q I r1 r2 r3 q
theorem set_dic (hu : X.A.units + 1 < cLine) : PSet X rSetD := by
  intro pins s σ H o i v ov iv u Q I r1 r2 r3 h
  obtain ⟨p, H', rfl, g, q⟩ := h
  cases r1
  exact d_setItem hu I g r2 r3 fun s' I' => ⟨H', I', q⟩
theorem RepK.put {K : PySem.W.Frag} {H : Hp} {M : Option Hp} {d : D} {v : V} (k : Key) (hd : Rep K H M d v) : ∀ {ds : List (Key × D)} {vs : List (Key × V)}, RepK K H M ds vs → RepK K H M (putD ds k d) (putK vs k v) := by
  have go : ∀ {ds : List (Key × D)} {vs : List (Key × V)}, RepK K H M ds vs → RepK K H M (ds.map fun kv => if kv.1 = k then (kv.1, d) else kv) (vs.map fun kv => if kv.1 = k then (kv.1, v) else kv) := by
    intro ds
    induction ds with
    | nil =>
      intro vs h
      cases (show vs = [] from h)
      exact rfl
    | cons p ds ih =>
      intro vs h
      obtain ⟨c, x⟩ := p
      obtain ⟨w, s, rfl, h1, h2⟩ := h
      by_cases e : c = k
      · rw [List.map_cons, List.map_cons, if_pos e, if_pos e]
        exact ⟨v, _, rfl, hd, ih h2⟩
      · rw [List.map_cons, List.map_cons, if_neg e, if_neg e]
        exact ⟨w, _, rfl, h1, ih h2⟩
  have app : ∀ {ds : List (Key × D)} {vs : List (Key × V)}, RepK K H M ds vs → RepK K H M (ds ++ [(k, d)]) (vs ++ [(k, v)]) := by
    intro ds
    induction ds with
    | nil =>
      intro vs h
      cases (show vs = [] from h)
      exact ⟨v, [], rfl, hd, rfl⟩
    | cons p ds ih =>
      intro vs h
      obtain ⟨c, x⟩ := p
      obtain ⟨w, s, rfl, h1, h2⟩ := h
      exact ⟨w, _, rfl, h1, ih h2⟩
  intro ds vs h
  have ea : (vs.any fun kv => decide (kv.1 = k)) = (ds.any fun kv => decide (kv.1 = k)) := by
    have e := h.keys
    have f : ∀ {α : Type} (l : List (Key × α)), (l.any fun kv => decide (kv.1 = k)) = (l.map (·.1)).any fun c => decide (c = k) := fun l => by rw [List.any_map]; rfl
    rw [f, f, e]
  unfold putD putK
  rw [ea]
  split
  · exact go h
  · exact app h
theorem ixN_lt {n : Nat} {i : Int} {j : Nat} (h : ixN n i = some j) : j < n := (ixN_seq h).2.1
def tSub (i : Nat) (tk : ET) : GT := fun f d δ q => (f = .wk → d.noTup = true) ∧ match getS δ i with
  | .ow (.lst ds) => tk xn δ fun _ k => match k with
    | .int j => ∃ n, ixN ds.length j = some n ∧ q (setS δ i (.ow (.lst (ds.set n d))))
    | _ => False
  | .ow (.dic kds) => tk xn δ fun _ k => match keyD k with
    | some c => kds.length < sizeLine ∧ q (setS δ i (.ow (.dic (putD kds c d))))
    | none => False
  | _ => False
theorem dg_sub (i : Nat) {x : Str} {xpos : Pos} (hu : X.A.units + 1 < cLine) (hk : DE X W0 b tk) (hN : X.N[i]? = some x := by rfl) (hv : Vis X.env.scope x := by first | exact Or.inl rfl | exact Or.inr (Or.inl rfl) | exact Or.inr (Or.inr rfl)) (hd : (x == ("__debug__" : Str)) = false := by decide)
    (hcd : (x == ("__classdict__" : Str)) = false := by decide) (ha : ∀ v, assign (.Subscript (.Name x xpos) b pos) X.env v = (do
      let ov ← holding [v] (eval (.Name x xpos) X.env)
      let iv ← holding [v, ov] (eval b X.env)
      standAt pos
      holding [v, ov, iv] (setItem ov iv v)
      release [v, ov, iv] []) := by intro _; rfl) : DG X [1000] (.Subscript (.Name x xpos) b pos) (tSub i tk) :=
  PG.imp (pg_sub (pv i hN hv hd hcd) hk (PSet.or set_list (set_dic hu)) ha) fun v σ H Q ⟨B, δ, f, d, q, r, R, h, ok⟩ => by
  unfold tSub at h
  obtain ⟨hw, h⟩ := h
  replace R := R.any hw
  split at h
  · rename_i ds hg
    obtain ⟨a, vs, hi, ea, e1, e2⟩ := r.lst hg
    refine ⟨.ref a, ea, B, δ, _, _, r, h, fun v1 H1 g1 d1 s1 R1 h1 => ?_, fun _ _ _ _ _ _ z => z.elim⟩
    split at h1
    · obtain ⟨n, en, h1⟩ := h1
      cases R1.toB r
      refine .inl ⟨a, vs, _, n, rfl, rfl, s1 _ _ e1, by rw [e2.len]; exact en, ?_⟩
      obtain ⟨r', s'⟩ := (r.ext s1).mut (o' := .lst (vs.set n v)) (d' := .lst (ds.set n d)) hi ea ⟨_, upd_same, RepA.set (Rep.same (DRel.frz_ext s1) R) n (RepA.same (DRel.frz_ext s1) e2)⟩
      exact ok _ _ _ r' ((DRel.frz_ext s1).trans s') (but_mut hg _ _ _) h1
    · exact h1.elim
  · rename_i kds hg
    obtain ⟨a, kvs, hi, ea, e1, e2⟩ := r.dic hg
    refine ⟨.ref a, ea, B, δ, _, _, r, h, fun v1 H1 g1 d1 s1 R1 h1 => ?_, fun _ _ _ _ _ _ z => z.elim⟩
    split at h1
    · rename_i c ec
      have ev := keyD_rep ec ((R1.toB r).full (cut_le _ _))
      subst ev
      refine .inr ⟨a, _, rfl, DPut.k (s1 _ _ e1) (by rw [e2.len]; exact h1.1), ?_⟩
      obtain ⟨r', s'⟩ := (r.ext s1).mut (o' := .dK (putK kvs c v)) (d' := .dic (putD kds c d)) hi ea ⟨_, upd_same, RepK.put c (Rep.same (DRel.frz_ext s1) R) (RepK.same (DRel.frz_ext s1) e2)⟩
      exact ok _ _ _ r' ((DRel.frz_ext s1).trans s') (but_mut hg _ _ _) h1.2
    · exact h1.elim
  · exact h.elim

/-! ### assignments -/
/-- what is stored into a target -/
def into (t : GT) (δ : DSt) (q : DSt → Prop) : Tg → D → Prop
  | .fz, d => t .sh d δ q
  | .fr, d => t .fr d δ q
  | .nw, d => t .sh d δ q
  | .bo, _ => False
def sAsg (t : ET) (g : GT) : ST := fun E δ => t (fun x => E.xe x δ) δ (into g δ E.nx)
theorem into_ok {K : PySem.W.Frag} {B : Bs} {H H' : Hp} {δ : DSt} {σ : St} {t : GT} {g : Tg} {d : D} {v : V} {q : DSt → Prop} {P : St → Hp → Prop} {ws : List Nat} (r : DRel K B H δ σ) (s : Same H H') (R : Res K B H H' δ σ g d v) (h : into t δ q g d)
    (nx : ∀ δ' σ' H', DRel K B H' δ' σ' → Same (Frz B H δ σ) (Frz B H' δ' σ') → q δ' → P σ' H') : LiftG K ws t v σ H' P := by
  have nx' : ∀ δ' σ' H2, DRel K B H2 δ' σ' → Same (Frz B H' δ σ) (Frz B H2 δ' σ') → But ws δ δ' σ σ' H' H2 → q δ' → P σ' H2 := fun δ' σ' H2 r2 s2 _ => nx δ' σ' H2 r2 ((DRel.frz_ext s).trans s2)
  cases g with
  | fz => exact ⟨B, δ, .sh, d, q, r.ext s, R, h, nx'⟩
  | fr => exact ⟨B, δ, .fr, d, q, r.ext s, R, h, nx'⟩
  | nw => exact ⟨B, δ, .sh, d, q, r.ext s, Res.toZ (g := .nw) r (fun z => by cases z) R, h, nx'⟩
  | bo => exact h.elim
theorem ds_asg {tg : Expr} (he : DE X W e ta) (hg : DG X ws tg g) (hs : swapsWithSole [tg] e pos.line X.env = pure false := by rfl) (hw : swappedStores [tg] e X.env = pure none := by rfl)
    (h1 : (assignEach [tg] X.env).map (·.2) = [assign tg X.env] := by rfl) : DS X W (.Assign [tg] e pos) (sAsg ta g) := PS.imp (ps_asg he hg hs hw h1) fun N σ H ⟨B, δ, E, r, h, nx, rt, bk, ct, xe⟩ =>
  ⟨B, δ, fun x => E.xe x δ, _, r, h, fun v H' g d s R hq => into_ok r s R hq nx, fun cls dx H' x s xr hx => xe cls dx δ σ H' x (r.ext s) (DRel.frz_ext s) xr hx⟩
/-- x += e -/
def sAug (i : Nat) (f : D → D → (D → Prop) → Prop) (t : ET) : ST := fun E δ => match getS δ i with
  | .sh x => t (fun x => E.xe x δ) δ fun _ y => f x y fun z => E.nx (setS δ i (.sh z))
  | .fr x => t (fun x => E.xe x δ) δ fun _ y => f x y fun z => E.nx (setS δ i (.sh z))
  | _ => False
def fAug : D → D → (D → Prop) → Prop := fun x y q => match x, y with
  | .int i, .int j => q (.int (i + j))
  | .str s, .str t => s.length + t.length ≤ sizeLine ∧ q (.str (s ++ t))
  | _, _ => False
def fAugI (g : Int → Int → Int) : D → D → (D → Prop) → Prop := fun x y q => match x, y with
  | .int i, .int j => q (.int (g i j))
  | _, _ => False
def rAug : TIp := fun x y H Q => (∃ i j, x = .int i ∧ y = .int j ∧ Q (.int (i + j)) H) ∨ ∃ i j, x = .str i ∧ y = .str j ∧ i.length + j.length ≤ sizeLine ∧ Q (.str (i ++ j)) H
theorem ip_add2 : PIp X .Add rAug := by
  intro pins s σ H x y v u Q I r1 r2 h
  rcases h with h | h
  · exact ip_add pins s σ H x y v u Q I r1 r2 h
  · exact iop_add_str pins s σ H x y v u Q I r1 r2 h
theorem aug_ok {op : Operator} {ti : TIp} {f : D → D → (D → Prop) → Prop} (i : Nat) {x : Str} (hN : X.N.Nodup) (hi : X.N[i]? = some x) (hx : Loc X.env.scope x) (he : DE X W e ta) (ho : PIp X op ti)
    (hs : ∀ (H Z : Hp) (v w : V) (d c : D) (q : D → Prop) (Q : VK), BRep X.K H Z d v → BRep X.K H Z c w → f d c q → (∀ v c, SRep c v → q c → Q v H) → ti v w H Q) (hf : X.fn x = true ∨ X.env.scope.names.lookup x = some .local) :
    DS X W (.AugAssign (.Name x pos') op e pos) (sAug i f ta) := PS.imp (ps_aug hN hi hx he ho hf) fun N σ H ⟨B, δ, E, r, h, nx, rt, bk, ct, xe⟩ => by
  have go : ∀ {d : D} {v : V}, σ[i]? = some (some v) → Rep X.K (Frz B H δ σ) none d v → ta (fun x => E.xe x δ) δ (fun _ y => f d y fun z => E.nx (setS δ i (.sh z))) → tAug i (Lift X.K W ta) ti N σ H := fun {d v} ev R h => by
    refine ⟨v, ev, B, δ, fun x => E.xe x δ, _, r, h, fun w H' g c s R' hq => ?_, fun cls dx H' x s xr hx => xe cls dx δ σ H' x (r.ext s) (DRel.frz_ext s) xr hx⟩
    refine hs H' _ v w d c _ _ ((Rep.toB (cut_le _ _) R).same s (DRel.frz_ext s)) (R'.toB r) hq fun z c hz hq => ?_
    obtain ⟨r', s'⟩ := (r.ext s).putSh (i := i) (d := c) (v := z) (SRep.rep hz)
    exact nx _ _ _ r' ((DRel.frz_ext s).trans s') hq
  unfold sAug at h
  split at h
  · rename_i d hg
    obtain ⟨v, ev, R⟩ := r.sl i _ (getS_some hg (fun z => nomatch z))
    exact go ev R h
  · rename_i d hg
    obtain ⟨v, ev, R⟩ := r.sl i _ (getS_some hg (fun z => nomatch z))
    exact go ev (Rep.any R) h
  · exact h.elim
theorem ds_augAdd (i : Nat) {x : Str} (hN : X.N.Nodup) (he : DE X W e ta) (hi : X.N[i]? = some x := by rfl) (hx : Loc X.env.scope x := by first | exact .inl rfl | exact .inr rfl) (hf : X.fn x = true ∨ X.env.scope.names.lookup x = some .local := by first | exact .inl rfl | exact .inr rfl | assumption) :
    DS X W (.AugAssign (.Name x pos') .Add e pos) (sAug i fAug ta) := aug_ok i hN hi hx he ip_add2 (fun H Z v w d c q Q hd hc h ok => by
  unfold fAug at h
  split at h
  · cases hd
    cases hc
    exact .inl ⟨_, _, rfl, rfl, ok _ (.int _) rfl h⟩
  · cases hd
    cases hc
    exact .inr ⟨_, _, rfl, rfl, h.1, ok _ (.str _) rfl h.2⟩
  · exact h.elim) hf
theorem ds_augSub (i : Nat) {x : Str} (hN : X.N.Nodup) (he : DE X W e ta) (hi : X.N[i]? = some x := by rfl) (hx : Loc X.env.scope x := by first | exact .inl rfl | exact .inr rfl) (hf : X.fn x = true ∨ X.env.scope.names.lookup x = some .local := by first | exact .inl rfl | exact .inr rfl | assumption) :
    DS X W (.AugAssign (.Name x pos') .Sub e pos) (sAug i (fAugI (· - ·)) ta) := aug_ok i hN hi hx he ip_sub (fun H Z v w d c q Q hd hc h ok => by
  unfold fAugI at h
  split at h
  · cases hd
    cases hc
    exact ⟨_, _, rfl, rfl, ok _ (.int _) rfl h⟩
  · exact h.elim) hf
/-- target = x.pop() -/
def sPop (i : Nat) (g : GT) : ST := fun E δ => ownL δ i fun ds => ∃ d, ds[ds.length - 1]? = some d ∧ g .sh d (setS δ i (.ow (.lst ds.dropLast))) E.nx
theorem ds_pop (i : Nat) {x : Str} {tg : Expr} {xpos apos cpos : Pos} (hg : DG X ws tg g) (hN : X.N[i]? = some x := by rfl) (hv : Vis X.env.scope x := by first | exact Or.inl rfl | exact Or.inr (Or.inl rfl) | exact Or.inr (Or.inr rfl)) (hd : (x == ("__debug__" : Str)) = false := by decide)
    (hcd : (x == ("__classdict__" : Str)) = false := by decide) (hbase : attributeBase (.Name x xpos) "pop" X.env (eval (.Name x xpos) X.env) = eval (.Name x xpos) X.env := by rfl)
    (hline : (apos.endLine == cpos.line) = true := by rfl)
    (hs : swapsWithSole [tg] (.Call (.Attribute (.Name x xpos) "pop" apos) [] [] cpos) pos.line X.env = pure false := by rfl) (hw : swappedStores [tg] (.Call (.Attribute (.Name x xpos) "pop" apos) [] [] cpos) X.env = pure none := by rfl)
    (h1 : (assignEach [tg] X.env).map (·.2) = [assign tg X.env] := by rfl) : DS X W (.Assign [tg] (.Call (.Attribute (.Name x xpos) "pop" apos) [] [] cpos) pos) (sPop i g) :=
  PS.imp (ps_asg (pe_bm0 PySem.F.plainAttrs_list PySem.F.slot_list_pop PySem.F.type_list_pop (mt_pop (X := X)) (pv i hN hv hd hcd) hbase hline) hg hs hw h1) fun N σ H ⟨B, δ, E, r, h, nx, rt, bk, ct, xe⟩ => by
  obtain ⟨ds, hgs, d, hd, h⟩ := ownL_of h
  obtain ⟨a, vs, hi, ea, e1, e2⟩ := r.lst hgs
  obtain ⟨v, hv, R⟩ := e2.get hd
  refine ⟨.ref a, ea, .inl ⟨rfl, vs, .inl (.inl e1)⟩, a, vs, v, rfl, rfl, e1, by rw [e2.len]; exact hv, ?_⟩
  obtain ⟨r', s'⟩ := r.mut (o' := .lst vs.dropLast) (d' := .lst ds.dropLast) hi ea ⟨_, upd_same, RepA.dropLast e2⟩
  exact ⟨B, _, .sh, d, _, r', Rep.same s' R, h, fun δ2 σ2 H2 r2 s2 _ => nx δ2 σ2 H2 r2 (s'.trans s2)⟩
end
end DL

set_option Elab.async false
set_option linter.all false
set_option maxRecDepth 100000
namespace DL
open PySem PySem.Spec PyProof.Rows L2

/-! ### what is walked -/
/-- a value that an iterator hands out: a frozen item, or a new tuple of such -/
def Yld (K : PySem.W.Frag) (Z H H' : Hp) (f : Gv) (d : D) (x : V) : Prop :=
  (H' = H ∧ Rep K Z none d x ∧ f = .sh) ∨ (f = .wk ∧ ∃ T vs ds, x = .ref T ∧ H T = none ∧ H' = upd H T (.tup vs) ∧ d = .tup ds ∧ RepA K Z none ds vs) ∨
    (f = .sh ∧ H' = H ∧ ∃ T ks, x = .ref T ∧ d = .ktp ks ∧ H T = some (.tup (ks.map kV))) ∨
    f = .sh ∧ ∃ T ob vs ds, x = .ref T ∧ H T = none ∧ ob.dict = none ∧ H' = upd H T (.frz ob (.tup vs)) ∧ d = .tup ds ∧ RepA K Z none ds vs
/-- the iterator hands out ds, as long as Z stands -/
structure Dlv (K : PySem.W.Frag) (Z : Hp) (J : It) (f : Gv) (ds : List D) : Prop where
  stop : ∀ H, Same Z H → J.stop ds.length H
  go : ∀ H i, Same Z H → i < ds.length → J.go i H
  yld : ∀ H i x H', Same Z H → i < ds.length → J.yld i H x H' → ∃ d, ds[i]? = some d ∧ Yld K Z H H' f d x
abbrev IT := XQ → DSt → (Gv → List D → Prop) → Prop
def LiftIt (K : PySem.W.Frag) (W : WX) (t : IT) : TI := fun σ H R => ∃ B δ e q, DRel K B H δ σ ∧ t e δ q ∧
  (∀ J H' f ds, Same H H' → Dlv K (Frz B H' δ σ) J f ds → q f ds → R J H') ∧ ∀ cls dx H' x, Same H H' → XRep K H' cls dx x → e x → W cls dx σ H'
abbrev DIt (X : Cx) (W : WX) (tg iter : Expr) (t : IT) : Prop := PI X tg iter (LiftIt X.K W t)
theorem PI.imp {X : Cx} {tg e : Expr} {t t' : TI} (h : PI X tg e t) (i : ∀ σ H Q, t' σ H Q → t σ H Q) : PI X tg e t' := ⟨fun pins s σ H Q I w => h.run pins s σ H Q I (i σ H Q w)⟩
theorem Yld.at {K : PySem.W.Frag} {B : Bs} {Z H H' : Hp} {δ : DSt} {σ : St} {f : Gv} {d : D} {x : V} (r : DRel K B H δ σ) (s : Same Z (Frz B H δ σ)) (h : Yld K Z H H' f d x) : Same H H' ∧ GvR K B.hp (Frz B H' δ σ) f d x := by
  rcases h with ⟨e, h, ef⟩ | ⟨ef, T, vs, ds, e1, e2, e3, e4, h⟩ | ⟨ef, e, T, ks, e1, e2, h⟩ | ⟨ef, T, ob, vs, ds, e1, e2, hob, e3, e4, h⟩
  · subst e ef
    exact ⟨Same.refl _, h.same s⟩
  · subst e1 e3 e4 ef
    exact ⟨same_upd' e2, .inr ⟨T, vs, ds, rfl, rfl, .inl (.inl (cut_some.mpr ⟨r.notOwn e2, upd_same⟩)), RepA.same (DRel.frz_ext (same_upd' e2)) (RepA.same s h)⟩⟩
  · subst ef e e1 e2
    exact ⟨Same.refl _, T, rfl, cut_some.mpr ⟨r.noKt (Same.refl _) h, h⟩⟩
  · subst e1 e3 e4 ef
    exact ⟨same_upd' e2, T, vs, rfl, ⟨ob, cut_some.mpr ⟨r.notOwn e2, upd_same⟩, hob⟩, RepA.same (DRel.frz_ext (same_upd' e2)) (RepA.same s h)⟩
section
variable {X : Cx} {W : WX} {a b c e o tg : Expr} {es : List Expr} {ta tb tc tk : ET} {ti : AT} {t u : ST} {ba : BT} {pos pos' : Pos} {st : Stmt} {sts : List Stmt} {g : GT} {gs : GTs} {it : IT} {ws : List Nat}
def chars (s : Str) : List D := s.cps.toList.map fun c => .str ⟨#[c]⟩
/-- a list, a tuple, a text -/
def itSeq (t : ET) : IT := fun e δ q => t e δ fun g x => g.put (match x with
  | .lst ds => q .sh ds
  | .tup ds => q .sh ds
  | .str s => q .sh (chars s)
  | _ => False)
theorem dlv_list {K : PySem.W.Frag} {Z : Hp} {a : Addr} {ds : List D} {vs : List V} (h : SqL K Z a vs) (r : RepA K Z none ds vs) : Dlv K Z (Itl K a) .sh ds := by
  have up : ∀ {H}, Same Z H → SqL K H a vs := fun {H} s => SqL.mono (fun _ _ => Same.rd s) h
  refine ⟨fun H s => ⟨vs, up s, by rw [r.len]; exact Nat.le_refl _⟩, fun H i s hi => ?_, fun H i x H' s hi y => ?_⟩
  · exact ⟨vs, vs[i]'(by rw [r.len]; exact hi), up s, by simp⟩
  · obtain ⟨e, y⟩ := y
    obtain ⟨d, e1, e2⟩ := r.get' (y _ (up s))
    exact ⟨d, e1, .inl ⟨e, e2, rfl⟩⟩
theorem dlv_tup {K : PySem.W.Frag} {Z : Hp} {a : Addr} {ds : List D} {vs : List V} (h : SqT K Z a vs) (r : RepA K Z none ds vs) : Dlv K Z (Itt K a) .sh ds := by
  have up : ∀ {H}, Same Z H → SqT K H a vs := fun {H} s => SqT.mono (fun _ _ => Same.rd s) h
  refine ⟨fun H s => ⟨vs, up s, by rw [r.len]; exact Nat.le_refl _⟩, fun H i s hi => ?_, fun H i x H' s hi y => ?_⟩
  · exact ⟨vs, vs[i]'(by rw [r.len]; exact hi), up s, by simp⟩
  · obtain ⟨e, y⟩ := y
    obtain ⟨d, e1, e2⟩ := r.get' (y _ (up s))
    exact ⟨d, e1, .inl ⟨e, e2, rfl⟩⟩
theorem dlv_str {K : PySem.W.Frag} {Z : Hp} {s : Str} : Dlv K Z (Its s) .sh (chars s) := by
  have el : (chars s).length = s.cps.size := by unfold chars; rw [List.length_map, Array.length_toList]
  refine ⟨fun H _ => by show s.cps.size ≤ _; rw [el]; exact Nat.le_refl _, fun H i _ hi => by rw [el] at hi; exact hi, fun H i x H' _ hi y => ?_⟩
  obtain ⟨e, c, ec, ex⟩ := y
  refine ⟨.str ⟨#[c]⟩, ?_, .inl ⟨e, ex, rfl⟩⟩
  unfold chars
  rw [List.getElem?_map, Array.getElem?_toList, ec] <;> rfl
theorem it_seq (ha : DE X W a ta) : DIt X W tg a (itSeq ta) := by
  constructor
  rintro pins s σ H R I ⟨B, δ, e, q, r, h, ok, bad⟩
  refine thn (ha.run pins s σ H (fun v H' => (∃ p, v = .ref p ∧ (((∃ xs, SqL X.K H' p xs) ∧ R (Itl X.K p) H') ∨ ((∃ xs, SqT X.K H' p xs) ∧ R (Itt X.K p) H'))) ∨ ∃ z, v = .str z ∧ R (Its z) H') I
    ⟨B, δ, e, _, r, h, fun v H' g d s R' hq => ?_, bad⟩) fun v s1 ⟨x, H1, I1, r1, q1⟩ => ?_
  · obtain ⟨hg, hq⟩ := Tg.put_ne hq
    have z := R'.toZ r hg
    split at hq
    · obtain ⟨p, vs, rfl, z1, z2⟩ := z
      exact .inl ⟨p, rfl, .inl ⟨⟨vs, SqL.mono (fun _ _ => rd_cut) z1⟩, ok _ _ _ _ s (dlv_list z1 z2) hq⟩⟩
    · obtain ⟨p, vs, rfl, z1, z2⟩ := z
      exact .inl ⟨p, rfl, .inr ⟨⟨vs, (tp_cut z1).sq⟩, ok _ _ _ _ s (dlv_tup z1.sq z2) hq⟩⟩
    · cases z
      exact .inr ⟨_, rfl, ok _ _ _ _ s dlv_str hq⟩
    · exact hq.elim
  · rcases q1 with ⟨p, rfl, ⟨hq, q⟩ | ⟨hq, q⟩⟩ | ⟨z, rfl, q⟩
    · cases r1
      obtain ⟨_, _, pl, _⟩ := I1.list hq.choose_spec
      exact wpAny_pyIter_list pl.isList (pi_one (tk := s1.toks) I1 _ (turn_list p _) ⟨_, Heap.get?_push_size _ rfl, rfl, rfl⟩ q)
    · cases r1
      obtain ⟨_, _, pt, _⟩ := I1.tuple hq.choose_spec
      exact wpAny_pyIter_tuple (show s1.heap.IsTuple p _ from pt) (pi_one (tk := s1.toks) I1 _ (turn_tuple p _) ⟨_, Heap.get?_push_size _ rfl, rfl, rfl⟩ q)
    · obtain ⟨t, rfl⟩ := r1
      cases ha : z.cps.all (· < 128)
      · exact wpAny_pyIter_wide ha (pi_one (tk := s1.toks) I1 _ (turn_str _ z t "str_iterator" (.inr rfl)) ⟨_, Heap.get?_push_size _ rfl, rfl, rfl⟩ q)
      · exact wpAny_pyIter_ascii ha (pi_one (tk := s1.toks) I1 _ (turn_str _ z t "str_ascii_iterator" (.inl rfl)) ⟨_, Heap.get?_push_size _ rfl, rfl, rfl⟩ q)
/-- range(..) -/
def rangeD (lo : Int) (n : Nat) : List D := (List.range n).map fun (i : Nat) => .int (lo + (i : Int))
theorem dlv_range {K : PySem.W.Frag} {Z : Hp} (lo : Int) (n : Nat) : Dlv K Z (Itr lo n) .sh (rangeD lo n) := by
  have el : (rangeD lo n).length = n := by unfold rangeD; rw [List.length_map, List.length_range]
  refine ⟨fun H _ => by show n ≤ _; rw [el]; exact Nat.le_refl _, fun H i _ hi => by rw [el] at hi; exact hi, fun H i x H' _ hi y => ?_⟩
  obtain ⟨e, ex⟩ := y
  rw [el] at hi
  refine ⟨.int (lo + i), ?_, .inl ⟨e, ex, rfl⟩⟩
  unfold rangeD
  rw [List.getElem?_map, List.getElem?_range hi] <;> rfl
def itR1 (t : AT) : IT := fun e δ q => t e δ fun ds => match ds with
  | [.int j] => (-(2 ^ 62) ≤ j ∧ j < 2 ^ 62) ∧ q .sh (rangeD 0 j.toNat)
  | _ => False
def itR2 (t : AT) : IT := fun e δ q => t e δ fun ds => match ds with
  | [.int i, .int j] => (-(2 ^ 62) ≤ i ∧ i < 2 ^ 62 ∧ -(2 ^ 62) ≤ j ∧ j < 2 ^ 62) ∧ q .sh (rangeD i (j - i).toNat)
  | _ => False
theorem BRepA.ints1 {K : PySem.W.Frag} {H Z : Hp} {i : Int} {vs : List V} (h : BRepA K H Z [.int i] vs) : vs = [.int i] := by
  obtain ⟨v, r, rfl, z, z2⟩ := h
  cases (show r = [] from z2)
  cases z.int
  rfl
theorem BRepA.ints2 {K : PySem.W.Frag} {H Z : Hp} {i j : Int} {vs : List V} (h : BRepA K H Z [.int i, .int j] vs) : vs = [.int i, .int j] := by
  obtain ⟨v, r, rfl, z, w, r2, rfl, y, z2⟩ := h
  cases (show r2 = [] from z2)
  cases z.int
  cases y.int
  rfl
theorem it_range1 {p : Pos} (hg : Gl X "range") (hm : X.mg "range" = none) (ha : DA X W [a] ti) (hs : starEach [a] X.env = [(false, eval a X.env)] := by rfl) : DIt X W tg (.Call (.Name "range" p) [a] [] pos) (itR1 ti) :=
  PI.imp (pi_range1 hg hm ha hs) fun σ H R ⟨B, δ, e, q, r, h, ok, bad⟩ => by
  refine ⟨B, δ, e, _, r, h, fun vs H' ds s R' hq => ?_, bad⟩
  split at hq
  · exact ⟨_, R'.ints1, hq.1.1, hq.1.2, ok _ _ _ _ s (dlv_range 0 _) hq.2⟩
  · exact hq.elim
theorem it_range2 {p : Pos} (hg : Gl X "range") (hm : X.mg "range" = none) (ha : DA X W [a, b] ti) (hs : starEach [a, b] X.env = [(false, eval a X.env), (false, eval b X.env)] := by rfl) (hs2 : starEach [b] X.env = [(false, eval b X.env)] := by rfl) :
    DIt X W tg (.Call (.Name "range" p) [a, b] [] pos) (itR2 ti) :=
  PI.imp (pi_range2 hg hm ha hs hs2) fun σ H R ⟨B, δ, e, q, r, h, ok, bad⟩ => by
  refine ⟨B, δ, e, _, r, h, fun vs H' ds s R' hq => ?_, bad⟩
  split at hq
  · exact ⟨_, _, R'.ints2, hq.1, ok _ _ _ _ s (dlv_range _ _) hq.2⟩
  · exact hq.elim
/-- enumerate(xs), zip(xs, ys) -/
def enumD : Nat → List D → List D
  | _, [] => []
  | i, d :: ds => .tup [.int (i : Int), d] :: enumD (i + 1) ds
theorem enumD_len : ∀ (i : Nat) (ds : List D), (enumD i ds).length = ds.length
  | _, [] => rfl
  | i, d :: ds => by rw [enumD, List.length_cons, enumD_len (i + 1) ds, List.length_cons]
theorem enumD_get : ∀ (i j : Nat) (ds : List D) (d : D), ds[j]? = some d → (enumD i ds)[j]? = some (.tup [.int ((i + j : Nat) : Int), d])
  | i, j, [], d, h => by simp at h
  | i, 0, x :: ds, d, h => by
    have : x = d := by simpa using h
    subst this
    rfl
  | i, j + 1, x :: ds, d, h => by
    have := enumD_get (i + 1) j ds d (by simpa using h)
    rw [enumD, List.getElem?_cons_succ, this]
    have e : i + 1 + j = i + (j + 1) := by omega
    rw [e]
theorem dlv_enum {K : PySem.W.Frag} {Z : Hp} {a : Addr} {ds : List D} {vs : List V} (h : SqL K Z a vs) (r : RepA K Z none ds vs) : Dlv K Z (Ite K a) .wk (enumD 0 ds) := by
  have up : ∀ {H}, Same Z H → SqL K H a vs := fun {H} s => SqL.mono (fun _ _ => Same.rd s) h
  refine ⟨fun H s => ⟨vs, up s, by rw [r.len, enumD_len]; exact Nat.le_refl _⟩, fun H i s hi => ?_, fun H i x H' s hi y => ?_⟩
  · rw [enumD_len] at hi
    exact ⟨vs, vs[i]'(by rw [r.len]; exact hi), up s, by simp⟩
  · obtain ⟨T, x, rfl, nT, rfl, y⟩ := y
    obtain ⟨d, e1, e2⟩ := r.get' (y _ (up s))
    refine ⟨.tup [.int (i : Int), d], ?_, .inr (.inl ⟨rfl, T, _, _, rfl, nT, rfl, rfl, _, _, rfl, rfl, .one e2⟩)⟩
    have := enumD_get 0 i ds d e1
    rw [Nat.zero_add] at this
    exact this
def itEnum (t : AT) : IT := fun e δ q => t e δ fun ds => match ds with
  | [.lst ds] => q .wk (enumD 0 ds)
  | _ => False
theorem it_enum {p tpos : Pos} {elts : List Expr} {kk : Nat} (hg : Gl X "enumerate") (hm : X.mg "enumerate" = none) (ha : DI X W [a] ti) (hs : starEach [a] X.env = [(false, eval a X.env)] := by rfl) : DIt X W (.Tuple elts kk tpos) (.Call (.Name "enumerate" p) [a] [] pos) (itEnum ti) :=
  PI.imp (pi_enum hg hm ha hs) fun σ H R ⟨B, δ, e, q, r, h, ok, bad⟩ => by
  refine ⟨B, δ, e, _, r, h, fun vs H' ds s R' hq => ?_, bad⟩
  split at hq
  · obtain ⟨v, r2, rfl, ⟨p, xs, rfl, z1, z2⟩, z3⟩ := R'
    cases (show r2 = [] from z3)
    exact ⟨p, xs, rfl, SqL.mono (fun _ _ => rd_cut) z1, ok _ _ _ _ s (dlv_enum z1 z2) hq⟩
  · exact hq.elim
def zipD : List D → List D → List D
  | x :: xs, y :: ys => .tup [x, y] :: zipD xs ys
  | _, _ => []
theorem zipD_len : ∀ xs ys : List D, (zipD xs ys).length = min xs.length ys.length
  | [], _ => by simp [zipD]
  | _ :: _, [] => by simp [zipD]
  | x :: xs, y :: ys => by
    rw [zipD, List.length_cons, zipD_len xs ys, List.length_cons, List.length_cons]
    omega
theorem zipD_get : ∀ (i : Nat) (xs ys : List D) (x y : D), xs[i]? = some x → ys[i]? = some y → (zipD xs ys)[i]? = some (.tup [x, y])
  | _, [], _, _, _, h, _ => by simp at h
  | _, _ :: _, [], _, _, _, h => by simp at h
  | 0, x :: xs, y :: ys, x', y', h, h' => by
    have e1 : x = x' := by simpa using h
    have e2 : y = y' := by simpa using h'
    subst e1 e2
    rfl
  | i + 1, x :: xs, y :: ys, x', y', h, h' => by
    rw [zipD, List.getElem?_cons_succ]
    exact zipD_get i xs ys x' y' (by simpa using h) (by simpa using h')
theorem dlv_zip {K : PySem.W.Frag} {Z : Hp} {a b : Addr} {ds es : List D} {vs ws : List V} (h : SqL K Z a vs) (r : RepA K Z none ds vs) (h' : SqL K Z b ws) (r' : RepA K Z none es ws) : Dlv K Z (Itz K a b) .wk (zipD ds es) := by
  have up : ∀ {H}, Same Z H → SqL K H a vs := fun {H} s => SqL.mono (fun _ _ => Same.rd s) h
  have up' : ∀ {H}, Same Z H → SqL K H b ws := fun {H} s => SqL.mono (fun _ _ => Same.rd s) h'
  have l1 := r.len
  have l2 := r'.len
  refine ⟨fun H s => ⟨vs, ws, up s, up' s, by rw [zipD_len]; omega⟩, fun H i s hi => ?_, fun H i x H' s hi y => ?_⟩
  · rw [zipD_len] at hi
    exact ⟨vs, ws, vs[i]'(by omega), ws[i]'(by omega), up s, up' s, by simp, by simp⟩
  · obtain ⟨T, x, y, rfl, nT, rfl, y1, y2⟩ := y
    obtain ⟨d, e1, e2⟩ := r.get' (y1 _ (up s))
    obtain ⟨d', e1', e2'⟩ := r'.get' (y2 _ (up' s))
    exact ⟨.tup [d, d'], zipD_get i ds es d d' e1 e1', .inr (.inl ⟨rfl, T, _, _, rfl, nT, rfl, rfl, _, _, rfl, e2, .one e2'⟩)⟩
def itZip (t : AT) : IT := fun e δ q => t e δ fun ds => match ds with
  | [.lst ds, .lst es] => q .wk (zipD ds es)
  | _ => False

/-! ### for -/
def forR (f : Gv) (tg : GT) (tb : ST) (fg : List Nat) (E : En) : List D → DSt → Prop
  | [], δ => E.nx δ
  | d :: r, δ => tg f d δ fun δ2 => tb { E with nx := fun δ' => forR f tg tb fg E r (forget fg δ'), ct := fun δ' => forR f tg tb fg E r (forget fg δ'), bk := E.nx } δ2
def sFor (it : IT) (tg : GT) (tb : ST) (fg : List Nat) : ST := fun E δ => it (fun x => E.xe x δ) δ fun f ds => forR f tg tb fg E ds δ
theorem ds_for {body : List Stmt} (fg : List Nat) (hp : PassesOwn (model X.prog X.w) X.A X.env X.xe) (hc : X.calm = true) (hi : DIt X W tg a it) (hg : DG X ws tg g) (hb : DSs X W body t)
    (hs : ∀ x, foldedSetIterable a X.env x = pure x := by intro _; rfl) : DS X W (.For tg a body [] pos) (sFor it g t fg) := PS.imp (ps_for hp hc hi hg hb hs) fun N σ H ⟨B, δ, E, r, h, nx, rt, bk, ct, xe⟩ => by
  refine ⟨B, δ, fun x => E.xe x δ, _, r, h, fun J H1 fl ds s0 Dv hq => ?_, fun cls dx H' x s xr hx => xe cls dx δ σ H' x (r.ext s) (DRel.frz_ext s) xr hx⟩
  have f0 : Same (Frz B H δ σ) (Frz B H1 δ σ) := DRel.frz_ext s0
  refine ⟨fun i m σ' H' => m = ds.length - i ∧ i ≤ ds.length ∧ ∃ δ', DRel X.K B H' δ' σ' ∧ Same (Frz B H1 δ σ) (Frz B H' δ' σ') ∧ forR fl g t fg E (ds.drop i) δ', ⟨ds.length, by simp, Nat.zero_le _, δ, r.ext s0, Same.refl _, hq⟩, ?_⟩
  rintro i m σ' H' ⟨rfl, hi, δ', r', s', hf⟩
  have sH : Same (Frz B H1 δ σ) H' := s'.trans (cut_le _ _)
  by_cases hlt : i < ds.length
  · refine .inr ⟨Dv.go H' i sH hlt, fun σ2 H2 => ∃ δ2, DRel X.K B H2 δ2 σ2 ∧ Same (Frz B H1 δ σ) (Frz B H2 δ2 σ2) ∧ forR fl g t fg E (ds.drop (i + 1)) δ2, fun σ2 H2 ⟨δ2, z1, z2, z3⟩ => ⟨_, by omega, rfl, hlt, δ2, z1, z2, z3⟩, fun x H2 y => ?_⟩
    obtain ⟨d, ed, yl⟩ := Dv.yld H' i x H2 sH hlt y
    obtain ⟨s2, R⟩ := yl.at r' s'
    have edrop : ds.drop i = d :: ds.drop (i + 1) := by
      rw [List.drop_eq_getElem_cons hlt]
      have : ds[i] = d := by
        rw [List.getElem?_eq_getElem hlt] at ed
        exact Option.some.inj ed
      rw [this]
    rw [edrop] at hf
    refine ⟨B, δ', fl, d, _, r'.ext s2, R, hf, fun δ3 σ3 H3 r3 s3 _ h3 => ?_⟩
    have t3 : Same (Frz B H1 δ σ) (Frz B H3 δ3 σ3) := (s'.trans (DRel.frz_ext s2)).trans s3
    have again : ∀ δ4 σ4 H4, DRel X.K B H4 δ4 σ4 → Same (Frz B H3 δ3 σ3) (Frz B H4 δ4 σ4) → forR fl g t fg E (ds.drop (i + 1)) (forget fg δ4) → ∃ δ2, DRel X.K B H4 δ2 σ4 ∧ Same (Frz B H1 δ σ) (Frz B H4 δ2 σ4) ∧ forR fl g t fg E (ds.drop (i + 1)) δ2 := fun δ4 σ4 H4 r4 s4 h4 => by
      obtain ⟨r5, s5⟩ := r4.forget fg
      exact ⟨_, r5, (t3.trans s4).trans s5, h4⟩
    exact ⟨B, δ3, _, r3, h3, again, rt, fun δ4 σ4 H4 r4 s4 h4 => nx δ4 σ4 H4 r4 ((f0.trans t3).trans s4) h4, again, fun cls dx δ4 σ4 H4 x r4 s4 => xe cls dx δ4 σ4 H4 x r4 ((f0.trans t3).trans s4)⟩
  · have e : i = ds.length := by omega
    subst e
    rw [List.drop_length] at hf
    exact .inl ⟨Dv.stop H' sH, nx δ' σ' H' r' (f0.trans s') hf⟩

/-! ### while -/
def sWhile (b : BT) (tb : ST) (fg : List Nat) : ST := fun E δ => ∃ Inv : Nat → DSt → Prop, (∃ m, Inv m δ) ∧ ∀ m δ, Inv m δ → b (fun x => E.xe x δ) δ fun k => if k = true then
  tb { E with nx := fun δ' => ∃ m', m' < m ∧ Inv m' (forget fg δ'), ct := fun δ' => ∃ m', m' < m ∧ Inv m' (forget fg δ'), bk := E.nx } δ else E.nx δ
theorem ds_while {body : List Stmt} (fg : List Nat) (hp : PassesOwn (model X.prog X.w) X.A X.env X.xe) (hc : DT X W c ba) (hb : DSs X W body t) : DS X W (.While c body [] pos) (sWhile ba t fg) := PS.imp (ps_while hp hc hb) fun N σ H ⟨B, δ, E, r, h, nx, rt, bk, ct, xe⟩ => by
  obtain ⟨Inv, ⟨m0, h0⟩, turn⟩ := h
  refine ⟨fun m σ' H' => ∃ δ', DRel X.K B H' δ' σ' ∧ Same (Frz B H δ σ) (Frz B H' δ' σ') ∧ Inv m δ', ⟨m0, δ, r, Same.refl _, h0⟩, ?_⟩
  rintro m σ' H' ⟨δ', r', s', hI⟩
  refine ⟨B, δ', fun x => E.xe x δ', _, r', turn m δ' hI, fun k H2 s2 hq => ?_, fun cls dx H2 x s2 xr hx => xe cls dx δ' σ' H2 x (r'.ext s2) (s'.trans (DRel.frz_ext s2)) xr hx⟩
  have t2 : Same (Frz B H δ σ) (Frz B H2 δ' σ') := s'.trans (DRel.frz_ext s2)
  cases k with
  | false =>
    rw [if_neg Bool.false_ne_true] at hq
    show N.nx σ' H2
    exact nx _ _ _ (r'.ext s2) t2 hq
  | true =>
    rw [if_pos rfl] at hq
    refine ⟨fun σ3 H3 => ∃ m', m' < m ∧ ∃ δ3, DRel X.K B H3 δ3 σ3 ∧ Same (Frz B H δ σ) (Frz B H3 δ3 σ3) ∧ Inv m' δ3, fun σ3 H3 z => z, ?_⟩
    have again : ∀ δ4 σ4 H4, DRel X.K B H4 δ4 σ4 → Same (Frz B H2 δ' σ') (Frz B H4 δ4 σ4) → (∃ m', m' < m ∧ Inv m' (forget fg δ4)) → ∃ m', m' < m ∧ ∃ δ3, DRel X.K B H4 δ3 σ4 ∧ Same (Frz B H δ σ) (Frz B H4 δ3 σ4) ∧ Inv m' δ3 := fun δ4 σ4 H4 r4 s4 ⟨m', hm, h4⟩ => by
      obtain ⟨r5, s5⟩ := r4.forget fg
      exact ⟨m', hm, _, r5, (t2.trans s4).trans s5, h4⟩
    exact ⟨B, δ', _, r'.ext s2, hq, again, rt, fun δ4 σ4 H4 r4 s4 h4 => nx δ4 σ4 H4 r4 (t2.trans s4) h4, again, fun cls dx δ4 σ4 H4 x r4 s4 => xe cls dx δ4 σ4 H4 x r4 (t2.trans s4)⟩
end
end DL

set_option Elab.async false
set_option linter.all false
set_option maxRecDepth 100000
namespace DL
open PySem PySem.Spec PyProof.Rows L2

section
variable {K : PySem.W.Frag} {B : Bs} {H H' : Hp} {δ : DSt} {σ : St} {i : Nat} {p : Addr} {o : HO}
theorem own_drop {b : Addr} (h : OwnA (setS δ i .un) (σ.set i none) b) : OwnA δ σ b := by
  obtain ⟨j, d, e1, e2⟩ := h
  rw [setS_eq] at e1
  by_cases hj : i = j
  · subst hj
    by_cases hl : i < δ.length
    · rw [List.getElem?_set_self hl] at e1
      cases e1
    · rw [List.getElem?_eq_none (by simpa using hl)] at e1
      cases e1
  · rw [List.getElem?_set_ne hj] at e1 e2
    exact ⟨j, d, e1, e2⟩
theorem DRel.drop1 (r : DRel K B H δ σ) : DRel K B H (setS δ i .un) (σ.set i none) ∧ Same (Frz B H δ σ) (Frz B H (setS δ i .un) (σ.set i none)) := by
  have fr : Same (Frz B H δ σ) (Frz B H (setS δ i .un) (σ.set i none)) := same_cut (Same.refl H) fun b hb z => z.imp own_drop id
  have back : ∀ {j : Nat} {s : Sl}, s ≠ .un → (setS δ i .un)[j]? = some s → i ≠ j ∧ δ[j]? = some s := fun {j s} ns e => by
    rw [setS_eq] at e
    by_cases hj : i = j
    · subst hj
      by_cases hl : i < δ.length
      · rw [List.getElem?_set_self hl] at e
        cases e
        exact absurd rfl ns
      · rw [List.getElem?_eq_none (by simpa using hl)] at e
        cases e
    · rw [List.getElem?_set_ne hj] at e
      exact ⟨hj, e⟩
  refine ⟨⟨by rw [setS_eq, List.length_set, List.length_set]; exact r.len, r.base, r.hide, fun b hb => r.apart b (own_drop hb), fun j l d e a e1 e2 e3 e4 => ?_, fun j t e => ?_⟩, fr⟩
  · obtain ⟨n1, q1⟩ := back (fun z => by cases z) e1
    obtain ⟨n2, q2⟩ := back (fun z => by cases z) e2
    rw [List.getElem?_set_ne n1] at e3
    rw [List.getElem?_set_ne n2] at e4
    exact r.inj j l d e a q1 q2 e3 e4
  · by_cases ht : t = .un
    · subst ht
      trivial
    · obtain ⟨n1, q1⟩ := back ht e
      rw [List.getElem?_set_ne n1]
      exact (r.sl j t q1).same (Same.refl H) fr
theorem DRel.drop (r : DRel K B H δ σ) : ∀ is : List Nat, DRel K B H (DL.forget is δ) (wipe σ is) ∧ Same (Frz B H δ σ) (Frz B H (DL.forget is δ) (wipe σ is))
  | [] => by
    rw [forget_nil]
    exact ⟨r, Same.refl _⟩
  | i :: is => by
    rw [forget_cons]
    obtain ⟨r1, s1⟩ := DRel.drop r is
    obtain ⟨r2, s2⟩ := r1.drop1 (i := i)
    exact ⟨r2, s1.trans s2⟩
theorem getS_set (δ : DSt) (i j : Nat) (x : Sl) : getS (setS δ i x) j = if i = j ∧ j < δ.length then x else getS δ j := by
  rw [getS_at, getS_at, setS_eq]
  by_cases e : i = j
  · subst e
    by_cases h : i < δ.length
    · rw [List.getElem?_set_self h, if_pos ⟨rfl, h⟩] <;> rfl
    · rw [List.getElem?_eq_none (by simpa using h), if_neg (fun z => h z.2), List.getElem?_eq_none (by simpa using h)]
  · rw [List.getElem?_set_ne e, if_neg (fun z => e z.1)]
theorem getS_forget (j : Nat) : ∀ (is : List Nat) (δ : DSt), j ∈ is → getS (forget is δ) j = .un
  | [], δ, h => by cases h
  | i :: is, δ, h => by
    rw [forget_cons, getS_set]
    split
    · rfl
    · rename_i n
      by_cases e : i = j
      · have hl : ¬ j < (forget is δ).length := fun z => n ⟨e, z⟩
        rw [getS_at, List.getElem?_eq_none (by omega)] <;> rfl
      · exact getS_forget j is δ ((List.mem_cons.mp h).resolve_left fun z => e z.symm)
theorem noOw_forget (vs : List Nat) : ∀ is : List Nat, (∀ j ∈ is, j ∈ vs) → noOw is (forget vs δ)
  | [], _ => trivial
  | i :: is, h => ⟨by rw [getS_forget i vs δ (h i (by simp))]; trivial, noOw_forget vs is fun j hj => h j (List.mem_cons_of_mem _ hj)⟩
theorem own_keep (b : Addr) : ∀ is : List Nat, noOw is δ → OwnA δ σ b → OwnA (forget is δ) (wipe σ is) b
  | [], _, h => by
    rw [forget_nil]
    exact h
  | i :: is, n, h => by
    obtain ⟨j, d, e1, e2⟩ := own_keep b is n.2 h
    have hj : i ≠ j := fun e => by
      subst e
      obtain ⟨j', d', z1, z2⟩ := h
      have n1 := n.1
      -- the slot i isn't owned, ahead or behind
      have hs : ∀ (is : List Nat) (d : D), (forget is δ)[i]? = some (Sl.ow d) → δ[i]? = some (Sl.ow d) := by
        intro is
        induction is with
        | nil => intro d z; rw [forget_nil] at z; exact z
        | cons k is ih =>
          intro d z
          show _
          rw [forget_cons, setS_eq] at z
          by_cases hk : k = i
          · subst hk
            by_cases hl : k < (forget is δ).length
            · rw [List.getElem?_set_self hl] at z
              cases z
            · rw [List.getElem?_eq_none (by simpa using hl)] at z
              cases z
          · rw [List.getElem?_set_ne hk] at z
            exact ih d z
      have z := hs is d e1
      have q : getS δ i = .ow d := by rw [getS_at, z] <;> rfl
      rw [q] at n1
      exact n1
    refine ⟨j, d, ?_, ?_⟩
    · rw [forget_cons, setS_eq, List.getElem?_set_ne hj]
      exact e1
    · rw [wipe, List.getElem?_set_ne hj]
      exact e2
/-- one more list is hidden -/
def Bs.more (B : Bs) (p : Addr) : Bs := ⟨B.hp, fun b => B.hid b ∨ b = p⟩
theorem DRel.hideMore (r : DRel K B H δ σ) (hp : H p = none) (n1 : ∀ xs, o ≠ .tup xs) (n2 : (∀ u w, o ≠ .frz u w) ∧ (∀ fs, o ≠ .xd fs) ∧ IsLD o) : DRel K (B.more p) (upd H p o) δ σ ∧ Same (Frz B H δ σ) (Frz (B.more p) (upd H p o) δ σ) := by
  have sm := same_upd' (o := o) hp
  have fr : Same (Frz B H δ σ) (Frz (B.more p) (upd H p o) δ σ) := same_cut sm fun b hb z => by
    rcases z with z | z | z
    · exact .inl z
    · exact .inr z
    · rw [z, hp] at hb
      cases hb
  refine ⟨⟨r.len, r.base.trans sm, fun a ha => ?_, fun a ha hh => ?_, r.inj, fun j t e => (r.sl j t e).same sm fr⟩, fr⟩
  · rcases ha with ha | rfl
    · obtain ⟨z1, o, z2, z3⟩ := r.hide a ha
      exact ⟨z1, o, sm _ _ z2, z3⟩
    · exact ⟨r.noB hp, o, upd_same, n1, n2⟩
  · rcases hh with hh | rfl
    · exact r.apart a ha hh
    · exact r.notOwn hp (.inl ha)
/-- the hidden list grows -/
theorem DRel.grow {o' : HO} (r : DRel K (B.more p) H δ σ) (n1 : ∀ xs, o' ≠ .tup xs) (n2 : (∀ u w, o' ≠ .frz u w) ∧ (∀ fs, o' ≠ .xd fs) ∧ IsLD o') : DRel K (B.more p) (upd H p o') δ σ ∧ Same (Frz (B.more p) H δ σ) (Frz (B.more p) (upd H p o') δ σ) := by
  have hp : (B.more p).hid p := .inr rfl
  have no : ∀ {b}, ¬ Hid (B.more p) δ σ b → b ≠ p := fun {b} h e => h (.inr (by rw [e]; exact hp))
  have fr : Same (Frz (B.more p) H δ σ) (Frz (B.more p) (upd H p o') δ σ) := fun b u h => by
    obtain ⟨z1, z2⟩ := cut_some.mp h
    exact cut_some.mpr ⟨z1, by rw [upd_ne (no z1)]; exact z2⟩
  refine ⟨⟨r.len, fun b u hb => ?_, fun a ha => ?_, r.apart, r.inj, fun j t e => ?_⟩, fr⟩
  · rw [upd_ne (fun e => by
      rw [e, (r.hide p hp).1] at hb
      cases hb)]
    exact r.base b u hb
  · by_cases e : a = p
    · subst e
      exact ⟨(r.hide a ha).1, o', upd_same, n1, n2⟩
    · obtain ⟨z1, u, z2, z3⟩ := r.hide a ha
      exact ⟨z1, u, by rw [upd_ne e]; exact z2, z3⟩
  · have q := r.sl j t e
    cases t with
    | un => trivial
    | sh d =>
      obtain ⟨w, z1, z2⟩ := q
      exact ⟨w, z1, z2.same fr⟩
    | fr d =>
      obtain ⟨w, z1, z2⟩ := q
      exact ⟨w, z1, z2.same fr⟩
    | ow d =>
      obtain ⟨b, z1, z2, z3⟩ := q
      have nb : b ≠ p := fun e' => r.apart b ⟨j, d, e, z1⟩ (by rw [e']; exact hp)
      refine ⟨b, z1, z2, z3.same (fun u z => ?_) fr⟩
      rw [upd_ne nb]
      exact z
    | ex y b f =>
      obtain ⟨z1, z2⟩ := q
      exact ⟨z1, fr _ _ z2⟩
theorem wipe_at {j : Nat} : ∀ (vs : List Nat) (σ : St), j < σ.length → (wipe σ vs)[j]? = if j ∈ vs then some none else σ[j]?
  | [], σ, h => rfl
  | v :: vs, σ, h => by
    rw [wipe]
    by_cases e : v = j
    · subst e
      rw [List.getElem?_set_self (by rw [wipe_length]; exact h), if_pos (by simp)]
    · rw [List.getElem?_set_ne e, wipe_at vs σ h]
      have : j ∈ v :: vs ↔ j ∈ vs := by
        rw [List.mem_cons]
        exact ⟨fun z => z.elim (fun q => absurd q.symm e) id, .inr⟩
      simp only [this]
theorem wipe_but {vs ws : List Nat} {δ δ' : DSt} {σ σ' : St} {H H' : Hp} (h : But ws δ δ' (wipe σ vs) σ' H H') (hw : ∀ j ∈ ws, j ∈ vs) : wipe σ' vs = wipe σ vs := by
  have hl : σ'.length = σ.length := by rw [h.1, wipe_length]
  apply List.ext_getElem?
  intro j
  by_cases hj : j < σ.length
  · rw [wipe_at vs σ' (by rw [hl]; exact hj), wipe_at vs σ hj]
    split
    · rfl
    · rename_i n
      rw [h.2 j fun z => n (hw j z), wipe_at vs σ hj, if_neg n]
  · rw [List.getElem?_eq_none (by rw [wipe_length, hl]; omega), List.getElem?_eq_none (by rw [wipe_length]; omega)]
end

/-- what holds in the block of a comprehension -/
abbrev InBlk (X : Cx) (scope : Scope) (P : Cx → Prop) : Prop := ∀ (s : Shared) (H : Hp) (C : Addr) (cl : List (Str × Addr)) (fp : List Addr), P (X.blk s H scope (compEnvC scope cl C X.env) fp)
/-! ### list comprehensions -/
def lcR (f : Gv) (tg : GT) (tst : BT) (elt : ET) (δ : DSt) : List D → (List D → Prop) → Prop
  | [], q => q []
  | d :: r, q => tg f d δ fun δ2 => tst xn δ2 fun b => if b = true then elt xn δ2 fun g y => g.put (lcR f tg tst elt δ r fun ys => q (y :: ys)) else lcR f tg tst elt δ r q
def eLc (it : IT) (own : List Nat) (tg : GT) (tst : BT) (elt : ET) : ET := fun e δ q => it e δ fun f ds => (noOw own δ ∧ ds.length ≤ sizeLine) ∧ lcR f tg tst elt (forget own δ) ds fun ys => q .nw (.lst ys)
abbrev DTs (X : Cx) (W : WX) (ifs : List Expr) (t : BT) : Prop := PTs X ifs (LiftT X.K W t)
def bYes : BT := fun _ _ q => q true
theorem PTs.imp {X : Cx} {e : List Expr} {t t' : TT} (h : PTs X e t) (i : ∀ σ H Q, t' σ H Q → t σ H Q) : PTs X e t' := ⟨fun pins s σ H Q I w => h.run pins s σ H Q I (i σ H Q w)⟩
section
variable {X : Cx} {W : WX} {c : Expr} {ba : BT}
theorem dts_nil : DTs X W [] bYes := PTs.imp pts_nil fun σ H Q ⟨B, δ, e, q, r, h, ok, bad⟩ => ok true H (Same.refl H) h
theorem dts_one (h : DT X W c ba) : DTs X W [c] ba := pts_one h
end
section
variable {X : Cx} {W : WX} {it : IT} {g : GT} {ws : List Nat} {tst : BT} {elt : ET} {own : List (Str × Nat)}
theorem lc_run {K : PySem.W.Frag} {B : Bs} {H1 : Hp} {δ : DSt} {σ : St} {J : It} {fl : Gv} {ds : List D} {vs : List Nat} {q : D → Prop} {Q : VK} (hw : ∀ j ∈ ws, j ∈ vs) (hm : 1000 ∉ ws) (r1 : DRel K B H1 δ σ) (Dv : Dlv K (Frz B H1 δ σ) J fl ds)
    (hq : (noOw vs δ ∧ ds.length ≤ sizeLine) ∧ lcR fl g tst elt (forget vs δ) ds fun ys => q (.lst ys)) (ok : ∀ v H' d, Same H1 H' → Res K B H1 H' δ σ .nw d v → q d → Q v H') :
    tLc (fun _ H R => R J H) (LiftG K ws g) (LiftT K W0 tst) (Lift K W0 elt) vs σ H1 Q := by
  intro D hD
  obtain ⟨⟨hno, hlen⟩, hq⟩ := hq
  obtain ⟨rd, sd⟩ := r1.drop vs
  obtain ⟨rh, sh⟩ := rd.hideMore (p := D) (o := .lst []) hD (fun _ z => by cases z) ⟨(fun _ _ z => by cases z), (fun _ z => by cases z), trivial⟩
  refine ⟨fun i m H' => m = ds.length - i ∧ i ≤ ds.length ∧ Same H1 H' ∧ ∃ acc as, H' D = some (.lst acc) ∧ acc.length ≤ i ∧ RepA K (Frz (B.more D) H' (forget vs δ) (wipe σ vs)) none as acc ∧
    DRel K (B.more D) H' (forget vs δ) (wipe σ vs) ∧ Same (Frz B H1 δ σ) (Frz (B.more D) H' (forget vs δ) (wipe σ vs)) ∧ lcR fl g tst elt (forget vs δ) (ds.drop i) fun ys => q (.lst (as ++ ys)),
    ⟨ds.length, by simp, Nat.zero_le _, same_upd' hD, [], [], upd_same, Nat.le_refl _, rfl, rh, sd.trans sh, hq⟩, ?_⟩
  rintro i m H' ⟨rfl, hi, sm, acc, as, hacc, hal, ra, rr, sz, hl⟩
  have sH : Same (Frz B H1 δ σ) H' := sz.trans (cut_le _ _)
  by_cases hlt : i < ds.length
  · refine .inr ⟨Dv.go H' i sH hlt, fun H2 => Same H1 H2 ∧ ∃ acc as, H2 D = some (.lst acc) ∧ acc.length ≤ i + 1 ∧ RepA K (Frz (B.more D) H2 (forget vs δ) (wipe σ vs)) none as acc ∧
      DRel K (B.more D) H2 (forget vs δ) (wipe σ vs) ∧ Same (Frz B H1 δ σ) (Frz (B.more D) H2 (forget vs δ) (wipe σ vs)) ∧ lcR fl g tst elt (forget vs δ) (ds.drop (i + 1)) fun ys => q (.lst (as ++ ys)),
      fun H2 ⟨z1, z2⟩ => ⟨_, by omega, rfl, hlt, z1, z2⟩, fun x H2 y => ?_⟩
    obtain ⟨d, ed, yl⟩ := Dv.yld H' i x H2 sH hlt y
    obtain ⟨s2, R⟩ := yl.at rr sz
    have edrop : ds.drop i = d :: ds.drop (i + 1) := by
      rw [List.drop_eq_getElem_cons hlt]
      have : ds[i] = d := by
        rw [List.getElem?_eq_getElem hlt] at ed
        exact Option.some.inj ed
      rw [this]
    rw [edrop] at hl
    -- the target
    refine ⟨B.more D, forget vs δ, fl, d, _, rr.ext s2, R, hl, fun δ3 σ3 H3 r3 s3 b3 h3 => ⟨wipe_but b3 hw, ?_⟩⟩
    have s23 := b3.heap hm
    have no0 : noOw vs (forget vs δ) := noOw_forget vs vs (fun _ z => z)
    obtain ⟨_, own3⟩ := b3.own vs no0 hw
    have fz : ∀ {H4 : Hp}, Same (Frz (B.more D) H4 δ3 σ3) (Frz (B.more D) H4 (forget vs δ) (wipe σ vs)) := fun {H4} => same_cut (Same.refl _) fun b _ z => z.imp (own3 b) id
    -- the next turn, behind a test that fails
    have skip : ∀ H4, Same H3 H4 → lcR fl g tst elt (forget vs δ) (ds.drop (i + 1)) (fun ys => q (.lst (as ++ ys))) → Same H1 H4 ∧ ∃ acc as, H4 D = some (.lst acc) ∧ acc.length ≤ i + 1 ∧ RepA K (Frz (B.more D) H4 (forget vs δ) (wipe σ vs)) none as acc ∧
        DRel K (B.more D) H4 (forget vs δ) (wipe σ vs) ∧ Same (Frz B H1 δ σ) (Frz (B.more D) H4 (forget vs δ) (wipe σ vs)) ∧ lcR fl g tst elt (forget vs δ) (ds.drop (i + 1)) fun ys => q (.lst (as ++ ys)) := fun H4 s4 h4 => by
      have s' : Same H' H4 := (s2.trans s23).trans s4
      exact ⟨sm.trans s', acc, as, s' _ _ hacc, Nat.le_succ_of_le hal, RepA.same (DRel.frz_ext s') ra, rr.ext s', sz.trans (DRel.frz_ext s'), h4⟩
    refine ⟨B.more D, δ3, xn, _, r3, h3, fun b H4 s4 h4 => ?_, fun _ _ _ _ _ _ z => z.elim⟩
    cases b with
    | false =>
      rw [if_neg Bool.false_ne_true] at h4
      show _ ∧ _
      exact skip H4 s4 h4
    | true =>
      rw [if_pos rfl] at h4
      refine ⟨B.more D, δ3, xn, _, r3.ext s4, h4, fun y H5 gy dy s5 R5 h5 => ?_, fun _ _ _ _ _ _ z => z.elim⟩
      obtain ⟨hg, h5⟩ := Tg.put_ne h5
      have s' : Same H' H5 := ((s2.trans s23).trans s4).trans s5
      have hD5 : H5 D = some (.lst acc) := s' _ _ hacc
      refine ⟨acc, hD5, Nat.lt_of_le_of_lt hal (Nat.lt_of_lt_of_le hlt hlen), ?_⟩
      obtain ⟨rg, sg⟩ := (rr.ext s').grow (o' := .lst (acc ++ [y])) (fun _ z => by cases z) ⟨(fun _ _ z => by cases z), (fun _ z => by cases z), trivial⟩
      have ry : Rep K (Frz (B.more D) H5 (forget vs δ) (wipe σ vs)) none dy y := Rep.same fz (R5.toZ (r3.ext s4) hg)
      refine ⟨fun b o hb => ?_, acc ++ [y], as ++ [dy], upd_same, by rw [List.length_append]; simpa using hal, RepA.same sg ((RepA.same (DRel.frz_ext s') ra).app (.one ry)), rg, (sz.trans (DRel.frz_ext s')).trans sg, ?_⟩
      · rw [upd_ne (ne_of_none hb hD)]
        exact s' _ _ (sm _ _ hb)
      · have e : (fun ys => q (.lst ((as ++ [dy]) ++ ys))) = fun ys => q (.lst (as ++ (dy :: ys))) := funext fun ys => by rw [List.append_assoc] <;> rfl
        rw [e]
        exact h5
  · have e : i = ds.length := by omega
    subst e
    rw [List.drop_length] at hl
    have hl' : q (.lst (as ++ [])) := hl
    rw [List.append_nil] at hl'
    refine .inl ⟨Dv.stop H' sH, ok _ _ (.lst as) sm ⟨D, rfl, hD, acc, hacc, RepA.same ?_ ra⟩ hl'⟩
    refine same_cut (Same.refl _) fun b _ z => ?_
    rcases z with (z | z) | z
    · exact .inl (own_keep b vs hno z)
    · exact .inr (.inl z)
    · exact .inr (.inr z)
theorem lift_lc (hw : ∀ j ∈ ws, j ∈ own.map (·.2)) (hm : 1000 ∉ ws) : ∀ σ H Q, Lift X.K W (eLc it (own.map (·.2)) g tst elt) σ H Q → tLc (LiftIt X.K W it) (LiftG X.K ws g) (LiftT X.K W0 tst) (Lift X.K W0 elt) (own.map (·.2)) σ H Q := by
  rintro σ H Q ⟨B, δ, e, q, r, h, ok, bad⟩
  exact ⟨B, δ, e, _, r, h, fun J H1 fl ds s1 Dv hq => lc_run (q := q .nw) hw hm (r.ext s1) Dv hq fun v H' d s R hq => ok v H' .nw d (s1.trans s) (R.back s1) hq, bad⟩
theorem de_lc {eltx tg iter : Expr} {ifs : List Expr} {scope : Scope} {pos : Pos} (own : List (Str × Nat)) (hc : X.calm = true) (hN : X.N.Nodup) (hi : DIt X W tg iter it) (ok : BlkOk X.N X.env.scope scope own)
    (hg : InBlk X scope fun Y => DG Y ws tg g) (ht : InBlk X scope fun Y => DTs Y W0 ifs tst)
    (he : InBlk X scope fun Y => DE Y W0 eltx elt) (hw : ∀ j ∈ ws, j ∈ own.map (·.2) := by decide) (hm : 1000 ∉ ws := by decide) (hs : ∀ x, foldedSetIterable iter X.env x = pure x := by intro _; rfl) :
    DE X W (.ListComp eltx [⟨tg, iter, ifs, 0⟩] scope pos) (eLc it (own.map (·.2)) g tst elt) := PE.imp (pe_lc hc hN hi ok hg ht he hs) (lift_lc hw hm)
/-- name = [..] -/
theorem ds_setLc {i : Nat} {y : Str} {py : Pos} {eltx tg iter : Expr} {ifs : List Expr} {scope : Scope} {pos spos : Pos} (own : List (Str × Nat)) (hc : X.calm = true) (hN : X.N.Nodup) (hi : DIt X W tg iter it) (ok : BlkOk X.N X.env.scope scope own)
    (hg : InBlk X scope fun Y => DG Y ws tg g) (ht : InBlk X scope fun Y => DTs Y W0 ifs tst)
    (he : InBlk X scope fun Y => DE Y W0 eltx elt) (hsw : swapsWith (.ListComp eltx [⟨tg, iter, ifs, 0⟩] scope pos) (some (.Name y py)) spos.line X.env = pure true)
    (hy : X.N[i]? = some y := by rfl) (hyl : X.env.scope.names.lookup y = some .local := by rfl) (hw : ∀ j ∈ ws, j ∈ own.map (·.2) := by decide) (hm : 1000 ∉ ws := by decide) (hs : ∀ x, foldedSetIterable iter X.env x = pure x := by intro _; rfl) :
    DS X W (.Assign [.Name y py] (.ListComp eltx [⟨tg, iter, ifs, 0⟩] scope pos) spos) (sSet i (eLc it (own.map (·.2)) g tst elt)) := PS.imp (ps_setLc hc hN hy hyl hsw hi ok hg ht he hs) fun N σ H ⟨B, δ, E, r, h, nx, rt, bk, ct, xe⟩ =>
  lift_lc hw hm σ H _ ⟨B, δ, fun x => E.xe x δ, _, r, h, fun v H' g d s R hq => slot_ok r s R hq nx, fun cls dx H' x s xr hx => xe cls dx δ σ H' x (r.ext s) (DRel.frz_ext s) xr hx⟩

/-! ### dict comprehensions -/
def dcR (f : Gv) (tg : GT) (tst : BT) (ek ev : ET) (δ : DSt) : List D → List (Key × D) → (List (Key × D) → Prop) → Prop
  | [], acc, q => q acc
  | d :: r, acc, q => tg f d δ fun δ2 => tst xn δ2 fun b => if b = true then ek xn δ2 fun _ k => ev xn δ2 fun g y => g.put (match keyD k with
      | some c => dcR f tg tst ek ev δ r (putD acc c y) q
      | none => False) else dcR f tg tst ek ev δ r acc q
def eDc (it : IT) (own : List Nat) (tg : GT) (tst : BT) (ek ev : ET) : ET := fun e δ q => it e δ fun f ds => (noOw own δ ∧ ds.length ≤ sizeLine) ∧ dcR f tg tst ek ev (forget own δ) ds [] fun ys => q .nw (.dic ys)
theorem length_putD (kds : List (Key × D)) (c : Key) (d : D) : (putD kds c d).length ≤ kds.length + 1 := by
  unfold putD
  split
  · rw [List.length_map]; omega
  · rw [List.length_append, List.length_cons, List.length_nil]; omega
theorem lift_dc {ek ev : ET} (hw : ∀ j ∈ ws, j ∈ own.map (·.2)) (hm : 1000 ∉ ws) : ∀ σ H Q, Lift X.K W (eDc it (own.map (·.2)) g tst ek ev) σ H Q → tDc (LiftIt X.K W it) (LiftG X.K ws g) (LiftT X.K W0 tst) (Lift X.K W0 ek) (Lift X.K W0 ev) (own.map (·.2)) σ H Q := by
  rintro σ H Q ⟨B, δ, e, q, r, h, ok, bad⟩
  refine ⟨B, δ, e, _, r, h, fun J H1 fl ds s1 Dv hq => ?_, bad⟩
  generalize own.map (·.2) = vs at hw hq ⊢
  intro D hD
  obtain ⟨⟨hno, hlen⟩, hq⟩ := hq
  have r1 := r.ext s1
  obtain ⟨rd, sd⟩ := r1.drop vs
  obtain ⟨rh, sh⟩ := rd.hideMore (p := D) (o := .dK []) hD (fun _ z => by cases z) ⟨(fun _ _ z => by cases z), (fun _ z => by cases z), trivial⟩
  refine ⟨fun i m H' => m = ds.length - i ∧ i ≤ ds.length ∧ Same H1 H' ∧ ∃ acc as, H' D = some (.dK acc) ∧ acc.length ≤ i ∧ RepK X.K (Frz (B.more D) H' (forget vs δ) (wipe σ vs)) none as acc ∧
    DRel X.K (B.more D) H' (forget vs δ) (wipe σ vs) ∧ Same (Frz B H1 δ σ) (Frz (B.more D) H' (forget vs δ) (wipe σ vs)) ∧ dcR fl g tst ek ev (forget vs δ) (ds.drop i) as fun ys => q .nw (.dic ys),
    ⟨ds.length, by simp, Nat.zero_le _, same_upd' hD, [], [], upd_same, Nat.le_refl _, rfl, rh, sd.trans sh, hq⟩, ?_⟩
  rintro i m H' ⟨rfl, hi, sm, acc, as, hacc, hal, ra, rr, sz, hl⟩
  have sH : Same (Frz B H1 δ σ) H' := sz.trans (cut_le _ _)
  by_cases hlt : i < ds.length
  · refine .inr ⟨Dv.go H' i sH hlt, fun H2 => Same H1 H2 ∧ ∃ acc as, H2 D = some (.dK acc) ∧ acc.length ≤ i + 1 ∧ RepK X.K (Frz (B.more D) H2 (forget vs δ) (wipe σ vs)) none as acc ∧
      DRel X.K (B.more D) H2 (forget vs δ) (wipe σ vs) ∧ Same (Frz B H1 δ σ) (Frz (B.more D) H2 (forget vs δ) (wipe σ vs)) ∧ dcR fl g tst ek ev (forget vs δ) (ds.drop (i + 1)) as fun ys => q .nw (.dic ys),
      fun H2 ⟨z1, z2⟩ => ⟨_, by omega, rfl, hlt, z1, z2⟩, fun x H2 y => ?_⟩
    obtain ⟨d, ed, yl⟩ := Dv.yld H' i x H2 sH hlt y
    obtain ⟨s2, R⟩ := yl.at rr sz
    have edrop : ds.drop i = d :: ds.drop (i + 1) := by
      rw [List.drop_eq_getElem_cons hlt]
      have : ds[i] = d := by
        rw [List.getElem?_eq_getElem hlt] at ed
        exact Option.some.inj ed
      rw [this]
    rw [edrop] at hl
    refine ⟨B.more D, forget vs δ, fl, d, _, rr.ext s2, R, hl, fun δ3 σ3 H3 r3 s3 b3 h3 => ⟨wipe_but b3 hw, ?_⟩⟩
    have s23 := b3.heap hm
    have no0 : noOw vs (forget vs δ) := noOw_forget vs vs (fun _ z => z)
    obtain ⟨_, own3⟩ := b3.own vs no0 hw
    have fz : ∀ {H4 : Hp}, Same (Frz (B.more D) H4 δ3 σ3) (Frz (B.more D) H4 (forget vs δ) (wipe σ vs)) := fun {H4} => same_cut (Same.refl _) fun b _ z => z.imp (own3 b) id
    refine ⟨B.more D, δ3, xn, _, r3, h3, fun b H4 s4 h4 => ?_, fun _ _ _ _ _ _ z => z.elim⟩
    cases b with
    | false =>
      rw [if_neg Bool.false_ne_true] at h4
      show _ ∧ _
      have s' : Same H' H4 := (s2.trans s23).trans s4
      exact ⟨sm.trans s', acc, as, s' _ _ hacc, Nat.le_succ_of_le hal, RepK.same (DRel.frz_ext s') ra, rr.ext s', sz.trans (DRel.frz_ext s'), h4⟩
    | true =>
      rw [if_pos rfl] at h4
      refine ⟨B.more D, δ3, xn, _, r3.ext s4, h4, fun kv H5 gk kd s5 R5 h5 => ?_, fun _ _ _ _ _ _ z => z.elim⟩
      refine ⟨B.more D, δ3, xn, _, (r3.ext s4).ext s5, h5, fun y H6 gy dy s6 R6 h6 => ?_, fun _ _ _ _ _ _ z => z.elim⟩
      obtain ⟨hg, h6⟩ := Tg.put_ne h6
      split at h6
      · rename_i c ec
        have ev := keyD_rep ec ((R5.toB (r3.ext s4)).full (cut_le _ _))
        have s' : Same H' H6 := (((s2.trans s23).trans s4).trans s5).trans s6
        have hD6 : H6 D = some (.dK acc) := s' _ _ hacc
        refine ⟨acc, c, ev, hD6, Nat.lt_of_le_of_lt hal (Nat.lt_of_lt_of_le hlt hlen), ?_⟩
        obtain ⟨rg, sg⟩ := (rr.ext s').grow (o' := .dK (putK acc c y)) (fun _ z => by cases z) ⟨(fun _ _ z => by cases z), (fun _ z => by cases z), trivial⟩
        have ry : Rep X.K (Frz (B.more D) H6 (forget vs δ) (wipe σ vs)) none dy y := Rep.same fz (R6.toZ ((r3.ext s4).ext s5) hg)
        refine ⟨fun b o hb => ?_, putK acc c y, putD as c dy, upd_same, Nat.le_trans (length_putK _ _ _) (by omega), RepK.same sg (RepK.put c ry (RepK.same (DRel.frz_ext s') ra)), rg, (sz.trans (DRel.frz_ext s')).trans sg, h6⟩
        rw [upd_ne (ne_of_none hb hD)]
        exact s' _ _ (sm _ _ hb)
      · exact h6.elim
  · have e : i = ds.length := by omega
    subst e
    rw [List.drop_length] at hl
    have hl' : q .nw (.dic as) := hl
    refine .inl ⟨Dv.stop H' sH, ok _ _ .nw (.dic as) (s1.trans sm) ⟨D, rfl, s1.free hD, acc, hacc, RepK.same ?_ ra⟩ hl'⟩
    refine same_cut (Same.refl _) fun b _ z => ?_
    rcases z with (z | z) | z
    · exact .inl (own_keep b vs hno z)
    · exact .inr (.inl z)
    · exact .inr (.inr z)
theorem de_dc {kx vx tg iter : Expr} {ifs : List Expr} {scope : Scope} {pos : Pos} {ek ev : ET} (own : List (Str × Nat)) (hc : X.calm = true) (hN : X.N.Nodup) (hi : DIt X W tg iter it) (ok : BlkOk X.N X.env.scope scope own)
    (hg : InBlk X scope fun Y => DG Y ws tg g) (ht : InBlk X scope fun Y => DTs Y W0 ifs tst)
    (hk : InBlk X scope fun Y => DE Y W0 kx ek)
    (he : InBlk X scope fun Y => DE Y W0 vx ev) (hw : ∀ j ∈ ws, j ∈ own.map (·.2) := by decide) (hm : 1000 ∉ ws := by decide) (hs : ∀ x, foldedSetIterable iter X.env x = pure x := by intro _; rfl) :
    DE X W (.DictComp kx vx [⟨tg, iter, ifs, 0⟩] scope pos) (eDc it (own.map (·.2)) g tst ek ev) := PE.imp (pe_dc hc hN hi ok hg ht hk he hs) (lift_dc hw hm)
end
end DL

set_option Elab.async false
set_option linter.all false
set_option maxRecDepth 100000
namespace DL
open PySem PySem.Spec PyProof.Rows L2
section
variable {X : Cx} {W : WX} {it : IT} {g : GT} {ws : List Nat} {tst : BT} {elt : ET}
/-- name = {..} -/
theorem ps_setDc {i : Nat} {y : Str} {py : Pos} {kx vx tg iter : Expr} {ifs : List Expr} {scope : Scope} {own : List (Str × Nat)} {pos spos : Pos} {wi : TI} {g : TG} {tt : TT} {tk tv : TE} (hc : X.calm = true) (hN : X.N.Nodup) (hy : X.N[i]? = some y) (hyl : X.env.scope.names.lookup y = some .local)
    (hsw : swapsWith (.DictComp kx vx [⟨tg, iter, ifs, 0⟩] scope pos) (some (.Name y py)) spos.line X.env = pure true) (hi : PI X tg iter wi) (ok : BlkOk X.N X.env.scope scope own)
    (hg : InBlk X scope fun Y => PG Y tg g) (ht : InBlk X scope fun Y => PTs Y ifs tt)
    (hk : InBlk X scope fun Y => PE Y kx tk)
    (he : InBlk X scope fun Y => PE Y vx tv) (hs : ∀ x, foldedSetIterable iter X.env x = pure x := by intro _; rfl) :
    PS X (.Assign [.Name y py] (.DictComp kx vx [⟨tg, iter, ifs, 0⟩] scope pos) spos) (tAsg (tDc wi g tt tk tv (own.map (·.2))) (gName i)) := by
  constructor
  intro ps s0 σ0 H0 E0 I0 h0
  rw [exec_Assign_Name_used (hs := hsw)]
  refine wpAny_bind (wpAny_standAt (wpAny_bind ?_))
  show wpAny _ X.A (comprehension (.DictComp kx vx [⟨tg, iter, ifs, 0⟩] scope pos) scope X.env (firstIterPos [⟨tg, iter, ifs, 0⟩] pos) newDict false (eval iter X.env) (some (assign (.Name y py) X.env)) >>= _) _ _ s0
  replace h0 : tDc wi g tt tk tv (own.map (·.2)) σ0 H0 fun x H1 => gName i x σ0 H1 E0.nx := h0
  have last : ∀ (L C : Addr) (s1 : Shared) (m : Str → Option Value) (H1 : Hp), Inv X ps σ0 H1 s1 → gName i (V.ref L) σ0 H1 E0.nx → s1.heap.Ns C m → FpOk X ps H1 C → compPost (model X.prog X.w) X.A X.xe (some (assign (.Name y py) X.env)) (fun _ s2 => SP X ps E0 .next s2) (.ref L) C (.ok .next) s1 := by
    rintro L C s1 m H1 I1 q hn ⟨f0, f1, f2, f3, f4, f5⟩
    refine wpAny_assign_Name (store_ok2 (v := V.ref L) I1 hN hy (Or.inl hyl) rfl ?_ (Or.inr hyl))
    rintro s2 I2 ⟨a, sb, ha⟩
    have apart : C ≠ a := ha.elim (fun z => by rw [z]; exact f1) fun z e => f4 y a z e.symm
    exact ⟨m, hn.sameBut sb apart, fun h3 sb3 => ⟨_, H1, I2.turned (t' := s2.toks) (fun b o hb e => (sb3.2 b hb).trans e) f0 f1 f3 f4 f5, q⟩⟩
  exact wpAny_bind (thn (dc_core hc hN I0 hi ok hg ht hk he hs h0 last) fun _ s2 z => wpAny_pure (wpAny_pure z))
theorem ds_setDc {i : Nat} {y : Str} {py : Pos} {kx vx tg iter : Expr} {ifs : List Expr} {scope : Scope} {pos spos : Pos} {ek ev : ET} (own : List (Str × Nat)) (hc : X.calm = true) (hN : X.N.Nodup) (hi : DIt X W tg iter it) (ok : BlkOk X.N X.env.scope scope own)
    (hg : InBlk X scope fun Y => DG Y ws tg g) (ht : InBlk X scope fun Y => DTs Y W0 ifs tst)
    (hk : InBlk X scope fun Y => DE Y W0 kx ek)
    (he : InBlk X scope fun Y => DE Y W0 vx ev) (hsw : swapsWith (.DictComp kx vx [⟨tg, iter, ifs, 0⟩] scope pos) (some (.Name y py)) spos.line X.env = pure true)
    (hy : X.N[i]? = some y := by rfl) (hyl : X.env.scope.names.lookup y = some .local := by rfl) (hw : ∀ j ∈ ws, j ∈ own.map (·.2) := by decide) (hm : 1000 ∉ ws := by decide) (hs : ∀ x, foldedSetIterable iter X.env x = pure x := by intro _; rfl) :
    DS X W (.Assign [.Name y py] (.DictComp kx vx [⟨tg, iter, ifs, 0⟩] scope pos) spos) (sSet i (eDc it (own.map (·.2)) g tst ek ev)) := PS.imp (ps_setDc hc hN hy hyl hsw hi ok hg ht hk he hs) fun N σ H ⟨B, δ, E, r, h, nx, rt, bk, ct, xe⟩ =>
  lift_dc hw hm σ H _ ⟨B, δ, fun x => E.xe x δ, _, r, h, fun v H' g d s R hq => slot_ok r s R hq nx, fun cls dx H' x s xr hx => xe cls dx δ σ H' x (r.ext s) (DRel.frz_ext s) xr hx⟩
end

/-! ### defs -/
def startD (N : List Str) (ds : List D) : DSt := ds.map Sl.sh ++ List.replicate (N.length - ds.length) .un
/-- the wish of a def's body: what its caller wants of an exception -/
abbrev WD (E : XK) : WX := fun cls d _ H => E cls d H
section
variable {P : Program} {w : World} {K : PySem.W.Frag} {mg : Str → Option Value} {base : Heap} {k : Nat}
theorem start_rel {N : List Str} {ds : List D} {vs : List V} {H : Hp} (h : RepA K H none ds vs) : DRel K ⟨H, fun _ => False⟩ H (startD N ds) (L2.start N vs) := by
  have el := h.len
  have no : ∀ {j : Nat} {d : D}, (startD N ds)[j]? ≠ some (Sl.ow d) := fun {j d} e => by
    unfold startD at e
    rw [List.getElem?_append] at e
    split at e
    · rw [List.getElem?_map] at e
      cases q : ds[j]? with
      | none =>
        rw [q] at e
        cases e
      | some x =>
        rw [q] at e
        cases e
    · have := List.mem_of_getElem? e
      rw [List.mem_replicate] at this
      cases this.2
  refine ⟨?_, Same.refl H, fun _ z => z.elim, fun a ⟨j, d, e, _⟩ => absurd e no, fun i j d e a z => absurd z no, fun i s e => ?_⟩
  · unfold startD L2.start
    simp only [List.length_append, List.length_map, List.length_replicate, el]
  · unfold startD at e
    rw [List.getElem?_append] at e
    split at e
    · rename_i hl
      rw [List.length_map] at hl
      rw [List.getElem?_map] at e
      cases q : ds[i]? with
      | none =>
        rw [q] at e
        cases e
      | some x =>
        rw [q] at e
        cases e
        obtain ⟨v, e1, e2⟩ := h.get q
        refine ⟨v, ?_, e2.same fun b o z => cut_some.mpr ⟨fun y => ?_, z⟩⟩
        · unfold L2.start
          rw [List.getElem?_append_left (by rw [List.length_map, el]; exact hl), List.getElem?_map, e1] <;> rfl
        · rcases y with ⟨j, d, y, _⟩ | y
          · exact absurd y no
          · exact y.elim
    · have := List.mem_of_getElem? e
      rw [List.mem_replicate] at this
      rw [this.2]
      trivial
/-- THE RULE for a def -/
theorem fnD {x qual : Str} {st : Stmt} {f : Addr} {fd : FuncData} {N ps : List Str} {sp : SpT} (F : Fun K x qual st f fd) (S : FnScope N ps (defScope st)) (len : ∀ ds e q, sp ds e q → ds.length = ps.length)
    (hbody : ∀ (cdv : Value) (A : Around) (outer : List Env) (s : Shared) (H : Hp) (E : XK), Room k (A.deeper (envOfC qual (defScope st) s.heap.objs.size f cdv)) →
      Takes (cxOf (L2.CX P w) P w K mg base N qual (defScope st) f cdv A outer s H E) (WD E) →
      ∃ t, DSs (cxOf (L2.CX P w) P w K mg base N qual (defScope st) f cdv A outer s H E) (WD E) (defBody st) t ∧
        ∀ ds e q, sp ds e q → t { nx := fun _ => q .non, rt := q, xe := fun x _ => e x } (startD N ds)) :
    FnOk P w K mg base (L2.CX P w) (k + 1) f fd ps (SpD K sp) := by
  refine F.okX S (fun vs H Q E ⟨ds, e, q, ra, h, _⟩ => ra.len.trans (len ds e q h)) fun cdv A outer s H vs Q E hr ⟨ds, e, q, ra, h, ok, bad⟩ => ?_
  obtain ⟨t, ht, hq⟩ := hbody cdv A outer s H E hr (takes_of rfl rfl rfl rfl)
  refine ⟨_, ht, ⟨H, fun _ => False⟩, startD N ds, _, start_rel ra, hq ds e q h, fun δ' σ' H' r' s' z => ?_, fun v H' d s' R z => ok v H' d s' (R.elim id fun q => q.1.elim) z, fun _ _ _ _ _ z => z.elim, fun _ _ _ _ _ z => z.elim, fun cls dx δ' σ' H' x r' s' xr z => bad cls dx H' x r'.base xr z⟩
  exact ok .non H' .non r'.base rfl z
end
end DL

set_option Elab.async false
set_option linter.all false
set_option maxRecDepth 100000
namespace DL
open PySem PySem.Spec PyProof.Rows L2

abbrev F1 := List D → (Tg → D → Prop) → Prop
def eCB (f : F1) (t : AT) : ET := fun e δ q => t e δ fun ds => f ds q
def SndC (K : PySem.W.Frag) (r : List V → Hp → VK → Prop) (f : F1) : Prop := ∀ (B : Bs) (H : Hp) (δ : DSt) (σ : St) (vs : List V) (ds : List D) (q : Tg → D → Prop) (Q : VK), DRel K B H δ σ → BRepA K H (Frz B H δ σ) ds vs → f ds q →
  (∀ v H' g c, Same H H' → Res K B H H' δ σ g c v → q g c → Q v H') → r vs H Q
section
variable {X : Cx} {W : WX} {e : Expr} {es : List Expr} {t : AT} {f : F1} {r r' : List V → Hp → VK → Prop} {x : Str} {id T : String} {p pos : Pos}
theorem liftC (hs : SndC X.K r f) : ∀ σ H Q, Lift X.K W (eCB f t) σ H Q → tCB r (LiftA X.K W t) σ H Q := fun σ H Q ⟨B, δ, e, q, r0, h, ok, bad⟩ =>
  ⟨B, δ, e, _, r0, h, fun vs H' ds s R hq => hs B H' δ σ vs ds q Q (r0.ext s) R hq fun v H2 g c s2 R2 h2 => ok v H2 g c (s.trans s2) (R2.back s) h2, bad⟩
theorem de_cb (hs : SndC X.K r f) (hc : CallR X (.builtin id) r) (hg : Gl X x) (hm : X.mg x = none) (hv : bootBuiltins x = some (.builtin id)) (ha : DA X W (e :: es) t) (hn : x ≠ "__name__" := by decide) (hdb : (x == ("__debug__" : Str)) = false := by decide)
    (he : starEach (e :: es) X.env = (false, eval e X.env) :: starEach es X.env := by rfl) (hpl : (backTo pos (starEach es X.env)).any (·.1) = false := by rfl) : DE X W (.Call (.Name x p) (e :: es) [] pos) (eCB f t) :=
  PE.imp (pe_callB hc hg hm hv ha hn hdb he hpl) (liftC hs)
theorem de_ct (hs : SndC X.K r f) (hc : CallR X (.type T) r) (hg : Gl X x) (hm : X.mg x = none) (hv : bootBuiltins x = some (.type T)) (ha : DA X W (e :: es) t) (hn : x ≠ "__name__" := by decide) (hdb : (x == ("__debug__" : Str)) = false := by decide)
    (he : starEach (e :: es) X.env = (false, eval e X.env) :: starEach es X.env := by rfl) (hpl : (backTo pos (starEach es X.env)).any (·.1) = false := by rfl) : DE X W (.Call (.Name x p) (e :: es) [] pos) (eCB f t) :=
  PE.imp (pe_callTy hc hg hm hv ha hn hdb he hpl) (liftC hs)
theorem BRepA.one {K : PySem.W.Frag} {H Z : Hp} {d : D} {vs : List V} (h : BRepA K H Z [d] vs) : ∃ v, vs = [v] ∧ BRep K H Z d v := by
  obtain ⟨v, r, rfl, z, z2⟩ := h
  cases (show r = [] from z2)
  exact ⟨v, rfl, z⟩
theorem BRepA.two {K : PySem.W.Frag} {H Z : Hp} {d c : D} {vs : List V} (h : BRepA K H Z [d, c] vs) : ∃ v w, vs = [v, w] ∧ BRep K H Z d v ∧ BRep K H Z c w := by
  obtain ⟨v, r, rfl, z, w, r2, rfl, y, z2⟩ := h
  cases (show r2 = [] from z2)
  exact ⟨v, w, rfl, z, y⟩
theorem sq_cut {K : PySem.W.Frag} {H : Hp} {P : Addr → Prop} {a : Addr} {vs : List V} (h : TupP (cut H P) a vs) : SqT K H a vs := (tp_cut h).sq

/-! ### len -/
def fLen : F1 := fun ds q => match ds with
  | [.lst ds] => q .fz (.int ds.length)
  | [.tup ds] => q .fz (.int ds.length)
  | [.str s] => s.length ≤ sizeLine ∧ q .fz (.int s.length)
  | _ => False
abbrev rLen (K : PySem.W.Frag) : List V → Hp → VK → Prop := fun xs H Q => (∃ p ys, xs = [.ref p] ∧ (SqL K H p ys ∨ SqT K H p ys) ∧ Q (.int ys.length) H) ∨ ∃ z, xs = [.str z] ∧ z.length ≤ sizeLine ∧ Q (.int z.length) H
theorem cr_len : CallR X (.builtin "len") (rLen X.K) := call_len_seq.or call_len_str
theorem snd_len : SndC X.K (rLen X.K) fLen := by
  intro B H δ σ vs ds q Q r h hf ok
  unfold fLen at hf
  split at hf
  · obtain ⟨v, rfl, p, ws, rfl, z, z2⟩ := h.one
    exact .inl ⟨p, ws, rfl, .inl z, by rw [z2.len]; exact ok _ _ _ _ (Same.refl H) (SRep.res (d := .int _) rfl) hf⟩
  · obtain ⟨v, rfl, p, ws, rfl, z, z2⟩ := h.one
    exact .inl ⟨p, ws, rfl, .inr (sq_cut z), by rw [z2.len]; exact ok _ _ _ _ (Same.refl H) (SRep.res (d := .int _) rfl) hf⟩
  · obtain ⟨v, rfl, z⟩ := h.one
    cases z
    exact .inr ⟨_, rfl, hf.1, ok _ _ _ _ (Same.refl H) (SRep.res (d := .int _) rfl) hf.2⟩
  · exact hf.elim
/-! ### list, tuple -/
def fList : F1 := fun ds q => match ds with
  | [.lst ds] => q .nw (.lst ds)
  | [.tup ds] => q .nw (.lst ds)
  | _ => False
theorem snd_list : SndC X.K (fun xs H Q => ∃ p ys, xs = [.ref p] ∧ (SqL X.K H p ys ∨ SqT X.K H p ys) ∧ ∀ l, H l = none → Q (.ref l) (upd H l (.lst ys))) fList := by
  intro B H δ σ vs ds q Q r h hf ok
  unfold fList at hf
  split at hf
  · obtain ⟨v, rfl, p, ws, rfl, z, z2⟩ := h.one
    exact ⟨p, ws, rfl, .inl z, fun l hl => ok _ _ _ _ (same_upd' hl) (resLst r hl z2) hf⟩
  · obtain ⟨v, rfl, p, ws, rfl, z, z2⟩ := h.one
    exact ⟨p, ws, rfl, .inr (sq_cut z), fun l hl => ok _ _ _ _ (same_upd' hl) (resLst r hl z2) hf⟩
  · exact hf.elim
def fTuple : F1 := fun ds q => match ds with
  | [.lst ds] => q .fz (.tup ds)
  | [.tup ds] => q .fz (.tup ds)
  | _ => False
theorem snd_tuple : SndC X.K (fun xs H Q => ∃ p ys, xs = [.ref p] ∧ ((SqL X.K H p ys ∧ ∀ l ob, H l = none → ob.dict = none → Q (.ref l) (upd H l (.frz ob (.tup ys)))) ∨ (SqT X.K H p ys ∧ Q (.ref p) H))) fTuple := by
  intro B H δ σ vs ds q Q r h hf ok
  unfold fTuple at hf
  split at hf
  · obtain ⟨v, rfl, p, ws, rfl, z, z2⟩ := h.one
    exact ⟨p, ws, rfl, .inl ⟨z, fun l ob hl ho => ok _ _ .fz _ (same_upd' hl) (resTup r hl ho z2) hf⟩⟩
  · obtain ⟨v, rfl, p, ws, rfl, z, z2⟩ := h.one
    have res : Res X.K B H H δ σ .fz (.tup _) (.ref p) := ⟨p, ws, rfl, z, z2⟩
    exact ⟨p, ws, rfl, .inr ⟨sq_cut z, ok _ _ _ _ (Same.refl H) res hf⟩⟩
  · exact hf.elim
/-! ### sum, all, any of bools, ints -/
def allI : List D → Option (List Int)
  | [] => some []
  | .int i :: r => (allI r).map (i :: ·)
  | _ :: _ => none
def allB : List D → Option (List Bool)
  | [] => some []
  | .bl i :: r => (allB r).map (i :: ·)
  | _ :: _ => none
theorem allI_rep {K : PySem.W.Frag} {H : Hp} {M : Option Hp} : ∀ {ds : List D} {vs : List V} {ns : List Int}, allI ds = some ns → RepA K H M ds vs → vs = ns.map V.int
  | [], vs, ns, e, h => by
    cases e
    exact h
  | .int i :: ds, vs, ns, e, h => by
    obtain ⟨v, r, rfl, z, z2⟩ := h
    cases q : allI ds with
    | none =>
      rw [allI, q] at e
      cases e
    | some ms =>
      rw [allI, q] at e
      cases e
      cases (show v = .int i from z)
      rw [allI_rep q z2] <;> rfl
  | .non :: _, _, _, e, _ => by cases e
  | .bl _ :: _, _, _, e, _ => by cases e
  | .str _ :: _, _, _, e, _ => by cases e
  | .lst _ :: _, _, _, e, _ => by cases e
  | .tup _ :: _, _, _, e, _ => by cases e
  | .dic _ :: _, _, _, e, _ => by cases e
theorem allB_rep {K : PySem.W.Frag} {H : Hp} {M : Option Hp} : ∀ {ds : List D} {vs : List V} {ns : List Bool}, allB ds = some ns → RepA K H M ds vs → vs = ns.map V.bl
  | [], vs, ns, e, h => by
    cases e
    exact h
  | .bl i :: ds, vs, ns, e, h => by
    obtain ⟨v, r, rfl, z, z2⟩ := h
    cases q : allB ds with
    | none =>
      rw [allB, q] at e
      cases e
    | some ms =>
      rw [allB, q] at e
      cases e
      cases (show v = .bl i from z)
      rw [allB_rep q z2] <;> rfl
  | .non :: _, _, _, e, _ => by cases e
  | .int _ :: _, _, _, e, _ => by cases e
  | .str _ :: _, _, _, e, _ => by cases e
  | .lst _ :: _, _, _, e, _ => by cases e
  | .tup _ :: _, _, _, e, _ => by cases e
  | .dic _ :: _, _, _, e, _ => by cases e
def fSum : F1 := fun ds q => match ds with
  | [.lst ds] => ∃ ns, allI ds = some ns ∧ q .fz (.int ns.sum)
  | _ => False
theorem snd_sum : SndC X.K (rSum X.K) fSum := by
  intro B H δ σ vs ds q Q r h hf ok
  unfold fSum at hf
  split at hf
  · obtain ⟨v, rfl, p, ws, rfl, z, z2⟩ := h.one
    obtain ⟨ns, e, hf⟩ := hf
    exact ⟨p, ns, rfl, by rw [← allI_rep e z2]; exact z, ok _ _ _ _ (Same.refl H) (SRep.res (d := .int _) rfl) hf⟩
  · exact hf.elim
def fAll : F1 := fun ds q => match ds with
  | [.lst ds] => ∃ ns, allB ds = some ns ∧ q .fz (.bl (ns.all _root_.id))
  | _ => False
theorem snd_all : SndC X.K (rAll X.K) fAll := by
  intro B H δ σ vs ds q Q r h hf ok
  unfold fAll at hf
  split at hf
  · obtain ⟨v, rfl, p, ws, rfl, z, z2⟩ := h.one
    obtain ⟨ns, e, hf⟩ := hf
    exact ⟨p, ns, rfl, by rw [← allB_rep e z2]; exact z, ok _ _ _ _ (Same.refl H) (SRep.res (d := .bl _) rfl) hf⟩
  · exact hf.elim
def fAny : F1 := fun ds q => match ds with
  | [.lst ds] => ∃ ns, allB ds = some ns ∧ q .fz (.bl (ns.any _root_.id))
  | _ => False
theorem snd_any : SndC X.K (rAny X.K) fAny := by
  intro B H δ σ vs ds q Q r h hf ok
  unfold fAny at hf
  split at hf
  · obtain ⟨v, rfl, p, ws, rfl, z, z2⟩ := h.one
    obtain ⟨ns, e, hf⟩ := hf
    exact ⟨p, ns, rfl, by rw [← allB_rep e z2]; exact z, ok _ _ _ _ (Same.refl H) (SRep.res (d := .bl _) rfl) hf⟩
  · exact hf.elim
/-! ### min, max of two; of a list of ints -/
def fMin2 : F1 := fun ds q => match ds with
  | [.int i, .int j] => q .fz (.int (if j < i then j else i))
  | _ => False
def fMax2 : F1 := fun ds q => match ds with
  | [.int i, .int j] => q .fz (.int (if j > i then j else i))
  | _ => False
theorem snd_min2 : SndC X.K (fun xs H Q => ∃ i j, xs = [.int i, .int j] ∧ Q (.int (if j < i then j else i)) H) fMin2 := by
  intro B H δ σ vs ds q Q r h hf ok
  unfold fMin2 at hf
  split at hf
  · exact ⟨_, _, h.ints2, ok _ _ _ _ (Same.refl H) (SRep.res (d := .int _) rfl) hf⟩
  · exact hf.elim
theorem snd_max2 : SndC X.K (fun xs H Q => ∃ i j, xs = [.int i, .int j] ∧ Q (.int (if j > i then j else i)) H) fMax2 := by
  intro B H δ σ vs ds q Q r h hf ok
  unfold fMax2 at hf
  split at hf
  · exact ⟨_, _, h.ints2, ok _ _ _ _ (Same.refl H) (SRep.res (d := .int _) rfl) hf⟩
  · exact hf.elim
/-! ### str of an int -/
def fStrI : F1 := fun ds q => match ds with
  | [.int i] => i.natAbs.log2 < 1920 ∧ q .fz (.str (toString i))
  | _ => False
theorem snd_strI : SndC X.K (fun xs H Q => ∃ i, xs = [.int i] ∧ i.natAbs.log2 < 1920 ∧ Q (.str (toString i)) H) fStrI := by
  intro B H δ σ vs ds q Q r h hf ok
  unfold fStrI at hf
  split at hf
  · exact ⟨_, h.ints1, hf.1, ok _ _ _ _ (Same.refl H) (SRep.res (d := .str _) rfl) hf.2⟩
  · exact hf.elim
end
end DL

set_option Elab.async false
set_option linter.all false
set_option maxRecDepth 100000
set_option maxHeartbeats 4000000
namespace DL
open PySem PySem.Spec PyProof.Rows L2

/-! ### the order of ints and texts, and of rows of such -/
abbrev SK := Sum Int (List Nat)
def ltS : SK → SK → Bool
  | .inl i, .inl j => decide (i < j)
  | .inl _, .inr _ => true
  | .inr _, .inl _ => false
  | .inr a, .inr b => decide (a < b)
theorem ltS_irrefl : ∀ x : SK, ltS x x = false
  | .inl i => decide_eq_false (Int.lt_irrefl i)
  | .inr a => decide_eq_false (List.lt_irrefl a)
theorem ltS_trans : ∀ {x y z : SK}, ltS x y = true → ltS y z = true → ltS x z = true
  | .inl i, .inl j, .inl k, h1, h2 => decide_eq_true (Int.lt_trans (of_decide_eq_true h1) (of_decide_eq_true h2))
  | .inl i, .inl j, .inr k, h1, h2 => rfl
  | .inl i, .inr j, .inr k, h1, h2 => rfl
  | .inl i, .inr j, .inl k, h1, h2 => by cases h2
  | .inr i, .inl j, _, h1, h2 => by cases h1
  | .inr i, .inr j, .inl k, h1, h2 => by cases h2
  | .inr i, .inr j, .inr k, h1, h2 => decide_eq_true (List.lt_trans (of_decide_eq_true h1) (of_decide_eq_true h2))
theorem ltS_tri : ∀ {x y : SK}, ltS x y = false → ltS y x = false → x = y
  | .inl i, .inl j, h1, h2 => by
    have a := of_decide_eq_false h1
    have b := of_decide_eq_false h2
    have : i = j := by omega
    rw [this]
  | .inl i, .inr j, h1, h2 => by cases h1
  | .inr i, .inl j, h1, h2 => by cases h2
  | .inr i, .inr j, h1, h2 => by
    have a := of_decide_eq_false h1
    have b := of_decide_eq_false h2
    rw [List.le_antisymm b a]
def lexS : List SK → List SK → Bool
  | [], [] => false
  | [], _ :: _ => true
  | _ :: _, [] => false
  | x :: xs, y :: ys => if x = y then lexS xs ys else ltS x y
theorem lexS_irrefl : ∀ x : List SK, lexS x x = false
  | [] => rfl
  | x :: xs => by rw [lexS, if_pos rfl]; exact lexS_irrefl xs
theorem lexS_trans : ∀ {x y z : List SK}, lexS x y = true → lexS y z = true → lexS x z = true
  | [], [], _, h1, _ => by cases h1
  | [], _ :: _, [], _, h2 => by cases h2
  | [], _ :: _, _ :: _, _, _ => rfl
  | _ :: _, [], _, h1, _ => by cases h1
  | _ :: _, _ :: _, [], _, h2 => by cases h2
  | x :: xs, y :: ys, z :: zs, h1, h2 => by
    rw [lexS] at h1 h2 ⊢
    by_cases e1 : x = y
    · subst e1
      rw [if_pos rfl] at h1
      by_cases e2 : x = z
      · subst e2
        rw [if_pos rfl] at h2 ⊢
        exact lexS_trans h1 h2
      · rw [if_neg e2] at h2 ⊢
        exact h2
    · rw [if_neg e1] at h1
      by_cases e2 : y = z
      · subst e2
        rw [if_neg e1]
        exact h1
      · rw [if_neg e2] at h2
        have h3 := ltS_trans h1 h2
        by_cases e3 : x = z
        · subst e3
          rw [ltS_irrefl] at h3
          cases h3
        · rw [if_neg e3]
          exact h3
theorem lexS_tri : ∀ {x y : List SK}, lexS x y = false → lexS y x = false → x = y
  | [], [], _, _ => rfl
  | [], _ :: _, h, _ => by cases h
  | _ :: _, [], _, h => by cases h
  | x :: xs, y :: ys, h1, h2 => by
    rw [lexS] at h1 h2
    by_cases e : x = y
    · subst e
      rw [if_pos rfl] at h1 h2
      rw [lexS_tri h1 h2]
    · rw [if_neg e] at h1
      rw [if_neg (fun z => e z.symm)] at h2
      exact absurd (ltS_tri h1 h2) e
theorem lexS_asymm {x y : List SK} (h : lexS x y = true) : lexS y x = false := by
  cases q : lexS y x with
  | false => rfl
  | true =>
    have := lexS_trans h q
    rw [lexS_irrefl] at this
    cases this
theorem lexS_tr {x y z : List SK} (h1 : lexS y x = false) (h2 : lexS z y = false) : lexS z x = false := by
  cases q : lexS z x with
  | false => rfl
  | true =>
    cases p : lexS y z with
    | true =>
      have := lexS_trans p q
      rw [h1] at this
      cases this
    | false =>
      have e := lexS_tri h2 p
      rw [e, h1] at q
      cases q
theorem swo_lexS {α : Type} (k : α → List SK) : SrtO.Swo fun v u => lexS (k v) (k u) :=
  ⟨fun _ _ h => lexS_asymm h, fun _ _ _ h1 h2 => lexS_tr h1 h2⟩

/-! ### values -/
def skU : Value → SK
  | .int i _ => .inl i
  | .str s _ => .inr s.cps.toList
  | _ => .inl 0
def kdS : SK → Bool
  | .inl _ => true
  | .inr _ => false
inductive FlatU : Value → SK → Prop where
  | int (i : Int) (t : Tok) : FlatU (.int i t) (.inl i)
  | str (s : Str) (t : Tok) : FlatU (.str s t) (.inr s.cps.toList)
inductive FlatUs : List Value → List SK → Prop where
  | nil : FlatUs [] []
  | cons {u : Value} {k : SK} {us : List Value} {ks : List SK} : FlatU u k → FlatUs us ks → FlatUs (u :: us) (k :: ks)
theorem FlatU.key {u : Value} {k : SK} (h : FlatU u k) : skU u = k := by cases h <;> rfl
theorem FlatUs.key : ∀ {us : List Value} {ks : List SK}, FlatUs us ks → us.map skU = ks
  | _, _, .nil => rfl
  | _, _, .cons h t => by rw [List.map_cons, h.key, FlatUs.key t]
section
variable {prog : Program} {w : World} {A : Around} {E : Value → Shared → Prop} {s : Shared} {Q : Bool → Shared → Prop}
theorem oneLt_flat (c : Bool) {u v : Value} {x y : SK} (hu : FlatU u x) (hv : FlatU v y) (hk : kdS x = kdS y) (h : Q (ltS x y) s) : wpAny (model prog w) A (oneLt' c u v) Q E s := by
  cases hu with
  | int i t =>
    cases hv with
    | int j t' => exact TS.oneLt_ints c h
    | str z t' => cases hk
  | str a t =>
    cases hv with
    | int j t' => cases hk
    | str b t' =>
      cases c with
      | true => exact oneLt_str h
      | false => exact PySem.W.kat_one _ _ (PyProof.Rows.lt_str (Q := PySem.W.BoolBack Q) h)
theorem eq_flat {u v : Value} {x y : SK} (hu : FlatU u x) (hv : FlatU v y) (hk : kdS x = kdS y) (h : Q (decide (x = y)) s) : wpAny (model prog w) A (eqBool u v) Q E s := by
  cases hu with
  | int i t =>
    cases hv with
    | int j t' =>
      refine wpAny_eqBool_int ?_
      have e : decide ((Sum.inl i : SK) = Sum.inl j) = (i == j) := by
        rw [Bool.eq_iff_iff]
        simp
      rw [e] at h
      exact h
    | str z t' => cases hk
  | str a t =>
    cases hv with
    | int j t' => cases hk
    | str b t' =>
      refine wpAny_eqBool_str ?_
      have e : decide ((Sum.inr a.cps.toList : SK) = Sum.inr b.cps.toList) = decide (a = b) := by
        refine decide_eq_decide.mpr ⟨fun z => ?_, fun z => by rw [z]⟩
        cases a
        cases b
        have z' := Sum.inr.inj z
        simpa using z'
      rw [e] at h
      exact h
theorem lex_flat {b : Bool} {xs ys : List Value} {ns ms : List SK} (i : Nat) (hx : FlatUs xs ns) (hy : FlatUs ys ms) (hk : ns.map kdS = ms.map kdS) (h : Q (lexS ns ms) s) : PySem.W.KatLex prog w A b false Q (xs.zip ys) i s := by
  induction hx generalizing ys ms i with
  | nil =>
    cases hy with
    | nil => exact PySem.W.kat_nil h
    | cons q hy => simp at hk
  | @cons p n xs ns hp hx ih =>
    cases hy with
    | nil => simp at hk
    | @cons q m ys ms hq hy =>
      have hk' : kdS n = kdS m ∧ ns.map kdS = ms.map kdS := by simpa using hk
      show PySem.W.KatLex prog w A b false Q ((p, q) :: xs.zip ys) i s
      refine PySem.W.kat_cons (eq_flat hp hq hk'.1 ?_)
      rw [lexS] at h
      by_cases e : n = m
      · rw [if_pos e] at h
        rw [decide_eq_true e]
        refine PySem.W.kat_yes ?_
        first
          | exact ih (i + 1) hy hk'.2 h
          | exact ih _ _ (i + 1) hy hk'.2 h
      · rw [if_neg e] at h
        rw [decide_eq_false e]
        exact PySem.W.kat_no (oneLt_flat _ hp hq hk'.1 h)
end
/-- a tuple of ints and texts, by its places -/
def TupF (h : Heap) (v : Value) (ks : List SK) : Prop := ∃ a o n its, v = .ref a ∧ h.get? a = some o ∧ o.cls = .type "tuple" ∧ o.data = .seq its n ∧ FlatUs its.toList ks
def keyU (h : Heap) (v : Value) : List SK := match v with
  | .ref a => match h.get? a with
    | some o => match o.data with
      | .seq its _ => its.toList.map skU
      | _ => []
    | none => []
  | _ => []
theorem TupF.key {h : Heap} {v : Value} {ks : List SK} (x : TupF h v ks) : keyU h v = ks := by
  obtain ⟨a, o, n, its, rfl, ho, hc, hd, hf⟩ := x
  unfold keyU
  simp only [ho, hd]
  exact hf.key
theorem TupF.keeps {h h' : Heap} {v : Value} {ks : List SK} (x : TupF h v ks) (k : ∀ b o, h.get? b = some o → o.cls = .type "tuple" → h'.get? b = some o) : TupF h' v ks := by
  obtain ⟨a, o, n, its, rfl, ho, hc, hd, hf⟩ := x
  exact ⟨a, o, n, its, rfl, k _ _ ho hc, hc, hd, hf⟩
section
variable {prog : Program} {w : World} {A : Around} {E : Value → Shared → Prop} {s : Shared}
/-- the tuples of one shape -/
def ShpU (h : Heap) (sh : List Bool) (vs : List Value) : Prop := ∀ v ∈ vs, ∃ ks, TupF h v ks ∧ ks.map kdS = sh
theorem flat_cmp {vs : List Value} {sh : List Bool} (hp : ShpU s.heap sh vs) (k : Value → List SK) (hk : ∀ v ∈ vs, k v = keyU s.heap v) : SrtO.Cmp prog w A s (tuples' true) (fun p => p.1 ∈ vs) (SrtO.lt2 fun v u => lexS (k v) (k u)) := by
  intro p q hm hm'
  obtain ⟨ns, h1, e1⟩ := hp _ hm
  obtain ⟨ms, h2, e2⟩ := hp _ hm'
  show wpAny (model prog w) A (keyLt' (tuples' true) p.1 q.1) (fun r s' => s' = s ∧ r = lexS (k p.1) (k q.1)) (fun _ _ => False) s
  rw [hk _ hm, hk _ hm', h1.key, h2.key]
  obtain ⟨a, o, n, its, e, ho, hc, hd, hf⟩ := h1
  obtain ⟨a', o', n', its', e', ho', hc', hd', hf'⟩ := h2
  rw [e, e']
  have hsz : decide (its.size < its'.size) = false := by
    have l1 := congrArg List.length hf.key
    have l2 := congrArg List.length hf'.key
    have l3 := congrArg List.length (e1.trans e2.symm)
    simp only [List.length_map, Array.length_toList] at l1 l2 l3
    exact decide_eq_false (by omega)
  refine PySem.W.kat_lt ho hd ho' hd' ?_
  rw [hsz]
  exact lex_flat 0 hf hf' (e1.trans e2.symm) ⟨rfl, rfl⟩
theorem firsts_flat {h : Heap} {b : Bool} {sh : List Bool} : ∀ vs : List Value, ShpU h (b :: sh) vs → ∃ fs, PySem.W.KatTups h vs fs ∧ fs.length = vs.length ∧ ∀ f ∈ fs, ∃ k, FlatU f k ∧ kdS k = b
  | [], _ => ⟨[], PySem.W.KatTups.nil, rfl, fun f hf => by simp at hf⟩
  | v :: vs, x => by
    obtain ⟨fs, k, hl, hi⟩ := firsts_flat vs fun u hu => x u (List.mem_cons_of_mem _ hu)
    obtain ⟨ks, ⟨a, o, n, its, rfl, ho, hc, hd, hf⟩, e⟩ := x v (List.mem_cons_self ..)
    cases ks with
    | nil => simp at e
    | cons y ys =>
      have e' : kdS y = b := by
        rw [List.map_cons] at e
        exact (List.cons.inj e).1
      cases q : its.toList with
      | nil =>
        rw [q] at hf
        cases hf
      | cons u us =>
        rw [q] at hf
        cases hf with
        | cons h1 h2 =>
          refine ⟨u :: fs, PySem.W.KatTups.cons ho hc hd ?_ k, by simp [hl], ?_⟩
          · have z := congrArg (fun l : List Value => l[0]?) q
            simpa using z
          · intro f hm
            rcases List.mem_cons.mp hm with rfl | hm
            · exact ⟨y, h1, e'⟩
            · exact hi f hm
theorem flat_sortable {a : Addr} {vs : List Value} {b : Bool} {sh : List Bool} (k : Value → List SK) (hk : ∀ v ∈ vs, k v = keyU s.heap v) (h0 : 0 < vs.length) (hp : ShpU s.heap (b :: sh) vs) (ha : ∀ o, s.heap.get? a = some o → o.cls ≠ .type "tuple") : SrtO.SortableO prog w A s a vs fun v u => lexS (k v) (k u) := by
  intro h' keep
  have kt : ∀ b o, s.heap.get? b = some o → o.cls = .type "tuple" → h'.get? b = some o := fun b o e c => keep b o (fun z => by subst z; exact ha o e c) e
  have hp' : ShpU h' (b :: sh) vs := fun v hm => let ⟨ks, x, e⟩ := hp v hm; ⟨ks, x.keeps kt, e⟩
  have hk' : ∀ v ∈ vs, k v = keyU h' v := fun v hm => by
    obtain ⟨ks, x, e⟩ := hp v hm
    rw [hk v hm, x.key, (x.keeps kt).key]
  obtain ⟨fs, h1, h2, h3⟩ := firsts_flat vs hp'
  refine ⟨tuples' true, fun Q E hq => ?_, flat_cmp hp' k hk'⟩
  cases b with
  | true =>
    refine PySem.W.kat_kind (T := .type "int") h1 (by omega) (fun f hm => ?_) (by rfl) ?_
    · obtain ⟨x, hx, ex⟩ := h3 f hm
      cases hx with
      | int i t => exact PySem.W.Looks.now
      | str z t => cases ex
    · have e : (Value.type "int" != Value.type "tuple") = true := by first | decide +kernel | rfl | decide
      rw [e]
      exact hq
  | false =>
    refine PySem.W.kat_kind (T := .type "str") h1 (by omega) (fun f hm => ?_) (by rfl) ?_
    · obtain ⟨x, hx, ex⟩ := h3 f hm
      cases hx with
      | int i t => cases ex
      | str z t => exact PySem.W.Looks.now
    · have e : (Value.type "str" != Value.type "tuple") = true := by first | decide +kernel | rfl | decide
      rw [e]
      exact hq
/-- sorted(l) of tuples of one shape -/
theorem sorted_flat {l : Addr} {vs : List Value} {b : Bool} {sh : List Bool} {Q : Value → Shared → Prop} (hl : s.heap.IsList l vs.toArray) (hz : vs.length ≤ sizeLine) (hp : ShpU s.heap (b :: sh) vs)
    (h : ∀ (h' : Heap) (d : Addr) (out : List Value), SrtO.Srtd (fun v u => lexS (keyU s.heap v) (keyU s.heap u)) out → out.Perm vs → (∀ b o, s.heap.get? b = some o → h'.get? b = some o) → s.heap.objs.size ≤ d → (∃ n, h'.get? d = some (seqObj "list" out.toArray n)) → Q (.ref d) { s with heap := h' }) :
    wpAny (model prog w) A (call (.builtin "sorted") [.ref l]) Q E s := by
  refine SrtO.sorted_ord (swo_lexS (keyU s.heap)) hl hz (fun h2 h₁ a ha kk => ?_) fun out hs hb => ?_
  · refine flat_sortable (s := { s with heap := h₁ }) (b := b) (sh := sh) (keyU s.heap) (fun v hm => ?_) (by omega) (fun v hm => ?_) fun o e => ?_
    · obtain ⟨ks, x, e⟩ := hp v hm
      rw [x.key, (x.keeps fun b o e _ => (kk b o e).2).key]
    · obtain ⟨ks, x, e⟩ := hp v hm
      exact ⟨ks, x.keeps fun b o e _ => (kk b o e).2, e⟩
    · have e' : some o = some (seqObj "list" vs.toArray 0) := e.symm.trans ha
      cases e'
      intro c
      exact absurd (Value.type.inj c) (by decide)
  · exact h _ _ out hs hb.perm (fun b o e => sortedAll_old e) (Nat.le_succ _) (sortedAll_at s.heap vs out.toArray)
end
end DL

set_option Elab.async false
set_option linter.all false
set_option maxRecDepth 100000
set_option maxHeartbeats 4000000
namespace DL
open PySem PySem.Spec PyProof.Rows L2

inductive FlatV : V → SK → Prop where
  | int (i : Int) : FlatV (.int i) (.inl i)
  | str (s : Str) : FlatV (.str s) (.inr s.cps.toList)
inductive FlatVs : List V → List SK → Prop where
  | nil : FlatVs [] []
  | cons {v : V} {k : SK} {vs : List V} {ks : List SK} : FlatV v k → FlatVs vs ks → FlatVs (v :: vs) (k :: ks)
theorem FlatVs.us : ∀ {vs : List V} {ks : List SK} {us : List Value}, FlatVs vs ks → Vals vs us → FlatUs us ks
  | _, _, _, .nil, .nil => .nil
  | _, _, _, .cons h t, .cons r rr => by
    refine .cons ?_ (FlatVs.us t rr)
    cases h with
    | int i =>
      obtain ⟨t, rfl⟩ := r
      exact .int i t
    | str s =>
      obtain ⟨t, rfl⟩ := r
      exact .str s t
def KeyOf (K : PySem.W.Frag) (H : Hp) (x : V) (ks : List SK) : Prop := (∃ k, FlatV x k ∧ ks = [k]) ∨ ∃ t vs, x = .ref t ∧ SqT K H t vs ∧ FlatVs vs ks
/-- what may be sorted: ints; texts; tuples of one shape -/
def Srtb (K : PySem.W.Frag) (H : Hp) (xs : List V) : Prop := (∃ b, ∀ x ∈ xs, ∃ k, FlatV x k ∧ kdS k = b) ∨ ∃ b sh, ∀ x ∈ xs, ∃ t vs ks, x = .ref t ∧ SqT K H t vs ∧ FlatVs vs ks ∧ ks.map kdS = b :: sh
def rSorted2 (K : PySem.W.Frag) : List V → Hp → VK → Prop := fun vs H Q => ∃ a xs, vs = [V.ref a] ∧ SqL K H a xs ∧ Srtb K H xs ∧
  ∀ ys p, ys.Perm xs → ys.Pairwise (fun x y => ∀ kx ky, KeyOf K H x kx → KeyOf K H y ky → lexS ky kx = false) → H p = none → Q (.ref p) (upd H p (.lst ys))
theorem vals_mem {xs : List V} {us : List Value} (r : Vals xs us) : ∀ u ∈ us, ∃ x ∈ xs, RelV x u := by
  induction r with
  | nil => intro u hu; exact absurd hu (by simp)
  | cons h t ih =>
    intro u hu
    rcases List.mem_cons.mp hu with rfl | hu
    · exact ⟨_, List.mem_cons_self, h⟩
    · obtain ⟨x, hx, hr⟩ := ih u hu
      exact ⟨x, List.mem_cons_of_mem _ hx, hr⟩
/-- a rearrangement of the values, as one of what they stand for -/
theorem vals_perm {us ws : List Value} (p : us.Perm ws) : ∀ {xs : List V}, Vals xs us → ∃ ys, ys.Perm xs ∧ Vals ys ws := by
  induction p with
  | nil => intro xs h; exact ⟨xs, .refl _, h⟩
  | cons u p ih =>
    intro xs h
    cases h with
    | cons r t =>
      obtain ⟨ys, z1, z2⟩ := ih t
      exact ⟨_ :: ys, z1.cons _, .cons r z2⟩
  | swap u v l =>
    intro xs h
    cases h with
    | cons r t =>
      cases t with
      | cons r' t' => exact ⟨_ :: _ :: _, .swap _ _ _, .cons r' (.cons r t')⟩
  | trans p q ih1 ih2 =>
    intro xs h
    obtain ⟨ys, z1, z2⟩ := ih1 h
    obtain ⟨zs, y1, y2⟩ := ih2 z2
    exact ⟨zs, y1.trans z1, y2⟩
/-- pairs in order, carried to what the values stand for -/
theorem vals_pair {R : Value → Value → Prop} {S : V → V → Prop} (h : ∀ x y u v, RelV x u → RelV y v → R u v → S x y) : ∀ {xs : List V} {us : List Value}, Vals xs us → us.Pairwise R → xs.Pairwise S
  | _, _, .nil, _ => .nil
  | _, _, .cons r t, p => by
    obtain ⟨p1, p2⟩ := List.pairwise_cons.mp p
    refine List.pairwise_cons.mpr ⟨fun y hy => ?_, vals_pair h t p2⟩
    obtain ⟨i, hi, e⟩ := List.getElem_of_mem hy
    obtain ⟨v, hv, rv⟩ := L2.Vals.get t (i := i) (x := y) (by rw [List.getElem?_eq_getElem hi, e])
    exact h _ _ _ _ r rv (p1 v (List.mem_of_getElem? hv))
section
variable {prog : Program} {w : World} {A : Around} {E : Value → Shared → Prop} {s : Shared}
theorem flat_one {vs : List Value} {b : Bool} {a : Addr} (hp : ∀ v ∈ vs, ∃ k, FlatU v k ∧ kdS k = b) (h2 : 2 ≤ vs.length) : SrtO.SortableO prog w A s a vs fun v u => lexS [skU v] [skU u] := by
  intro h' _
  refine ⟨oneType', fun Q E hq => ?_, fun p q hm hm' => ?_⟩
  · cases b with
    | true =>
      have hI : IntsAre vs (vs.map fun u => match u with | .int i _ => i | _ => 0) := by
        clear h2
        induction vs with
        | nil => exact .nil
        | cons v vs ih =>
          obtain ⟨k, hk, e⟩ := hp v (by simp)
          cases hk with
          | int i t => exact .cons i t (ih fun u hu => hp u (List.mem_cons_of_mem _ hu))
          | str z t => cases e
      match vs, hI, h2 with
      | v1 :: v2 :: rest, hI, _ =>
        rw [keyKind_ints hI]
        exact wpAny_pure hq
      | [], _, h => exact absurd h (by decide)
      | [v], _, h => exact absurd h (by simp)
    | false =>
      have hI : StrsAre vs (vs.map fun u => match u with | .str i _ => i | _ => Str.empty) := by
        clear h2
        induction vs with
        | nil => exact .nil
        | cons v vs ih =>
          obtain ⟨k, hk, e⟩ := hp v (by simp)
          cases hk with
          | int i t => cases e
          | str z t => exact .cons z t (ih fun u hu => hp u (List.mem_cons_of_mem _ hu))
      match vs, hI, h2 with
      | v1 :: v2 :: rest, hI, _ =>
        rw [keyKind_strs hI]
        exact wpAny_pure hq
      | [], _, h => exact absurd h (by decide)
      | [v], _, h => exact absurd h (by simp)
  · obtain ⟨x, hx, ex⟩ := hp _ hm
    obtain ⟨y, hy, ey⟩ := hp _ hm'
    show wpAny (model prog w) A (keyLt' oneType' p.1 q.1) (fun r s' => s' = _ ∧ r = lexS [skU p.1] [skU q.1]) (fun _ _ => False) _
    rw [hx.key, hy.key, keyLt'_oneType]
    refine oneLt_flat true hx hy (ex.trans ey.symm) ⟨rfl, ?_⟩
    rw [lexS]
    by_cases e : x = y
    · rw [if_pos e, e, ltS_irrefl] <;> rfl
    · rw [if_neg e]
end
section
variable {X : Cx}
theorem cr_sorted2 : CallR X (.builtin "sorted") (rSorted2 X.K) := by
  rintro pins s σ H vs us Q I r ⟨a, xs, rfl, hsq, hx, q⟩
  obtain ⟨its, rv, hl, hz⟩ := I.list hsq
  rw [Vals.ref1 r]
  have hz' : its.length ≤ sizeLine := by rw [← rv.length]; exact hz
  rcases hx with ⟨b, hx⟩ | ⟨b, sh, hx⟩
  · have hp : ∀ v ∈ its, ∃ k, FlatU v k ∧ kdS k = b := fun v hv => by
      obtain ⟨x, hm, rx⟩ := vals_mem rv v hv
      obtain ⟨k, hk, e⟩ := hx x hm
      refine ⟨k, ?_, e⟩
      cases hk with
      | int i =>
        obtain ⟨t, rfl⟩ := rx
        exact .int i t
      | str z =>
        obtain ⟨t, rfl⟩ := rx
        exact .str z t
    refine SrtO.sorted_ord (swo_lexS fun u => [skU u]) hl.isList hz' (fun h2 h₁ a' _ _ => flat_one hp h2) fun out h1 h2 => ?_
    obtain ⟨ys, p1, p2⟩ := vals_perm h2.perm.symm rv
    have ⟨ep, he'⟩ := sortedAll_at s.heap its out.toArray
    refine ⟨.ref _, upd H (s.heap.objs.size + 1) (.lst ys), I.laid (t' := s.toks) (fun _ _ => sortedAll_old) (Nat.le_succ _) ⟨by rw [p1.length_eq]; exact hz, out, ep, p2, he'⟩, rfl, q _ _ p1 ?_ (I.hok.fresh (Nat.le_succ _))⟩
    refine vals_pair (R := fun u v => u ∈ its ∧ v ∈ its ∧ lexS [skU v] [skU u] = false) (fun x y u v rx ry ⟨m1, m2, hl⟩ kx ky hkx hky => ?_) p2 (h1.imp_of_mem fun m1 m2 hl => ⟨h2.perm.mem_iff.mp m1, h2.perm.mem_iff.mp m2, hl⟩)
    have key : ∀ {x : V} {u : Value} {k : List SK}, RelV x u → u ∈ its → KeyOf X.K H x k → k = [skU u] := fun {x u k} rx m hk => by
      obtain ⟨c, hc, _⟩ := hp u m
      rcases hk with ⟨k', hk, rfl⟩ | ⟨t, vs, rfl, _⟩
      · cases hk with
        | int i =>
          obtain ⟨t, rfl⟩ := rx
          rfl
        | str z =>
          obtain ⟨t, rfl⟩ := rx
          rfl
      · cases rx
        cases hc
    rw [key rx m1 hkx, key ry m2 hky]
    exact hl
  · have tup : ∀ {x : V} {u : Value} {t : Addr} {vs : List V} {ks : List SK}, RelV x u → x = .ref t → SqT X.K H t vs → FlatVs vs ks → TupF s.heap u ks := fun {x u t vs ks} rx ex hq hf => by
      subst ex
      cases rx
      obtain ⟨its2, r2, ⟨o, ho, hc, n, hd⟩, _⟩ := I.tuple hq
      exact ⟨t, o, n, _, rfl, ho, hc, hd, hf.us r2⟩
    have hp : ShpU s.heap (b :: sh) its := fun v hv => by
      obtain ⟨x, hm, rx⟩ := vals_mem rv v hv
      obtain ⟨t, vs, ks, ex, hq, hf, e⟩ := hx x hm
      exact ⟨ks, tup rx ex hq hf, e⟩
    refine sorted_flat hl.isList hz' hp fun h' d out h1 h2 kp hd hn => ?_
    obtain ⟨n, hn⟩ := hn
    obtain ⟨ys, p1, p2⟩ := vals_perm h2.symm rv
    refine ⟨.ref d, upd H d (.lst ys), I.laid (t' := s.toks) kp hd ⟨by rw [p1.length_eq]; exact hz, out, n, p2, hn⟩, rfl, q _ _ p1 ?_ (I.hok.fresh hd)⟩
    refine vals_pair (R := fun u v => u ∈ its ∧ v ∈ its ∧ lexS (keyU s.heap v) (keyU s.heap u) = false) (fun x y u v rx ry ⟨m1, m2, hl⟩ kx ky hkx hky => ?_) p2 (h1.imp_of_mem fun m1 m2 hl => ⟨h2.mem_iff.mp m1, h2.mem_iff.mp m2, hl⟩)
    have key : ∀ {x : V} {u : Value} {k : List SK}, RelV x u → u ∈ its → KeyOf X.K H x k → k = keyU s.heap u := fun {x u k} rx m hk => by
      rcases hk with ⟨k', hk, rfl⟩ | ⟨t, vs, ex, hq, hf⟩
      · obtain ⟨ks, ⟨a, o, n, its, rfl, _⟩, _⟩ := hp u m
        cases hk with
        | int i =>
          obtain ⟨t, e⟩ := rx
          cases e
        | str z =>
          obtain ⟨t, e⟩ := rx
          cases e
      · exact (tup rx ex hq hf).key.symm
    rw [key rx m1 hkx, key ry m2 hky]
    exact hl
end

/-! ### over data -/
def skD : D → SK
  | .int i => .inl i
  | .str s => .inr s.cps.toList
  | _ => .inl 0
def keyL : D → List SK
  | .tup ds => ds.map skD
  | d => [skD d]
def leD (a b : D) : Bool := !lexS (keyL b) (keyL a)
def sortD (ds : List D) : List D := ds.mergeSort leD
/-- ints; texts; tuples of ints and texts, of one shape -/
def ShpD (b : Bool) (sh : List Bool) (d : D) : Prop := ∃ ds, d = .tup ds ∧ ds.all D.flat = true ∧ ds.map (fun x => kdS (skD x)) = b :: sh
def SrtbD (ds : List D) : Prop := (∃ b, ∀ d ∈ ds, d.flat = true ∧ kdS (skD d) = b) ∨ ∃ b sh, ∀ d ∈ ds, ShpD b sh d
theorem skD_inj {d e : D} (fd : d.flat = true) (fe : e.flat = true) (h : skD d = skD e) : d = e := by
  cases d with
  | int i =>
    cases e with
    | int j => rw [Sum.inl.inj h]
    | str z => cases h
    | _ => exact absurd fe Bool.false_ne_true
  | str i =>
    cases e with
    | int j => cases h
    | str z =>
      have := Sum.inr.inj h
      cases i
      cases z
      have e : ∀ a b : Array Nat, a.toList = b.toList → a = b := fun a b h => by simpa using h
      exact congrArg (fun c => D.str ⟨c⟩) (e _ _ this)
    | _ => exact absurd fe Bool.false_ne_true
  | _ => exact absurd fd Bool.false_ne_true
theorem skDs_inj : ∀ {ds es : List D}, ds.all D.flat = true → es.all D.flat = true → ds.map skD = es.map skD → ds = es
  | [], [], _, _, _ => rfl
  | [], _ :: _, _, _, h => by simp at h
  | _ :: _, [], _, _, h => by simp at h
  | d :: ds, e :: es, f1, f2, h => by
    have f1' : d.flat = true ∧ ds.all D.flat = true := by simpa using f1
    have f2' : e.flat = true ∧ es.all D.flat = true := by simpa using f2
    have h' : skD d = skD e ∧ ds.map skD = es.map skD := by simpa using h
    rw [skD_inj f1'.1 f2'.1 h'.1, skDs_inj f1'.2 f2'.2 h'.2]
theorem SrtbD.inj {ds : List D} (h : SrtbD ds) {d e : D} (hd : d ∈ ds) (he : e ∈ ds) (q : keyL d = keyL e) : d = e := by
  rcases h with ⟨b, h⟩ | ⟨b, sh, h⟩
  · obtain ⟨f1, _⟩ := h d hd
    obtain ⟨f2, _⟩ := h e he
    have k : ∀ {d : D}, d.flat = true → keyL d = [skD d] := fun {d} f => by
      cases d with
      | tup _ => exact absurd f Bool.false_ne_true
      | _ => rfl
    rw [k f1, k f2] at q
    exact skD_inj f1 f2 (by simpa using q)
  · obtain ⟨ds', rfl, f1, _⟩ := h d hd
    obtain ⟨es', rfl, f2, _⟩ := h e he
    rw [skDs_inj f1 f2 q]
theorem leD_trans (a b c : D) (h1 : leD a b = true) (h2 : leD b c = true) : leD a c = true := by
  unfold leD at h1 h2 ⊢
  have e1 : lexS (keyL b) (keyL a) = false := by simpa using h1
  have e2 : lexS (keyL c) (keyL b) = false := by simpa using h2
  rw [lexS_tr e1 e2] <;> rfl
theorem leD_total (a b : D) : (leD a b || leD b a) = true := by
  unfold leD
  cases q : lexS (keyL b) (keyL a) with
  | false => rfl
  | true => rw [lexS_asymm q] <;> rfl
theorem sortD_perm (ds : List D) : (sortD ds).Perm ds := List.mergeSort_perm _ _
theorem sortD_pair (ds : List D) : (sortD ds).Pairwise fun a b => lexS (keyL b) (keyL a) = false := (List.pairwise_mergeSort leD_trans leD_total ds).imp fun {a b} h => by
  unfold leD at h
  simpa using h
/-- there is one order -/
theorem sortD_eq {ds es : List D} (h : SrtbD ds) (p : es.Perm ds) (s : es.Pairwise fun a b => lexS (keyL b) (keyL a) = false) : es = sortD ds :=
  List.Perm.eq_of_pairwise (fun a b ha hb h1 h2 => h.inj (p.mem_iff.mp ha) ((sortD_perm ds).mem_iff.mp hb) (lexS_tri h2 h1)) s (sortD_pair ds) (p.trans (sortD_perm ds).symm)
section
variable {K : PySem.W.Frag} {H : Hp} {M : Option Hp}
theorem repA_perm {vs ws : List V} (p : vs.Perm ws) : ∀ {ds : List D}, RepA K H M ds vs → ∃ es, es.Perm ds ∧ RepA K H M es ws := by
  induction p with
  | nil => intro ds h; exact ⟨ds, .refl _, h⟩
  | cons u p ih =>
    intro ds h
    cases ds with
    | nil => cases (show _ :: _ = [] from h)
    | cons d ds =>
      obtain ⟨v, r, e, z1, z2⟩ := h
      cases e
      obtain ⟨es, y1, y2⟩ := ih z2
      exact ⟨d :: es, y1.cons _, _, _, rfl, z1, y2⟩
  | swap u v l =>
    intro ds h
    cases ds with
    | nil => cases (show _ :: _ = [] from h)
    | cons d ds =>
      obtain ⟨v1, r, e, z1, z2⟩ := h
      cases e
      cases ds with
      | nil => cases (show _ :: _ = [] from z2)
      | cons c ds =>
        obtain ⟨v2, r, e, y1, y2⟩ := z2
        cases e
        exact ⟨c :: d :: ds, .swap _ _ _, _, _, rfl, y1, _, _, rfl, z1, y2⟩
  | trans p q ih1 ih2 =>
    intro ds h
    obtain ⟨es, z1, z2⟩ := ih1 h
    obtain ⟨fs, y1, y2⟩ := ih2 z2
    exact ⟨fs, y1.trans z1, y2⟩
theorem flat_key {d : D} {v : V} (f : d.flat = true) (h : Rep K H M d v) : FlatV v (skD d) := by
  cases d with
  | int i =>
    cases (show v = .int i from h)
    exact .int i
  | str i =>
    cases (show v = .str i from h)
    exact .str i
  | _ => exact absurd f Bool.false_ne_true
theorem flat_keys : ∀ {ds : List D} {vs : List V}, ds.all D.flat = true → RepA K H M ds vs → FlatVs vs (ds.map skD)
  | [], vs, _, h => by
    cases (show vs = [] from h)
    exact .nil
  | d :: ds, vs, f, h => by
    obtain ⟨v, r, rfl, z1, z2⟩ := h
    have f' : d.flat = true ∧ ds.all D.flat = true := by simpa using f
    exact .cons (flat_key f'.1 z1) (flat_keys f'.2 z2)
theorem SrtbD.key {ds : List D} (h : SrtbD ds) {d : D} (hd : d ∈ ds) {v : V} (r : Rep K H M d v) : KeyOf K H v (keyL d) := by
  rcases h with ⟨b, h⟩ | ⟨b, sh, h⟩
  · obtain ⟨f1, _⟩ := h d hd
    have k : keyL d = [skD d] := by
      cases d with
      | tup _ => exact absurd f1 Bool.false_ne_true
      | _ => rfl
    exact .inl ⟨skD d, flat_key f1 r, k⟩
  · obtain ⟨ds', rfl, f1, _⟩ := h d hd
    obtain ⟨t, vs, rfl, z1, z2⟩ := r
    exact .inr ⟨t, vs, rfl, z1.sq, flat_keys f1 z2⟩
theorem repA_mem {ds : List D} {vs : List V} (h : RepA K H M ds vs) {x : V} (hx : x ∈ vs) : ∃ d ∈ ds, Rep K H M d x := by
  obtain ⟨i, hi, e⟩ := List.getElem_of_mem hx
  obtain ⟨d, z1, z2⟩ := h.get' (i := i) (v := x) (by rw [List.getElem?_eq_getElem hi, e])
  exact ⟨d, List.mem_of_getElem? z1, z2⟩
theorem SrtbD.srtb {ds : List D} {vs : List V} (h : SrtbD ds) (r : RepA K H M ds vs) : Srtb K H vs := by
  rcases h with ⟨b, h⟩ | ⟨b, sh, h⟩
  · refine .inl ⟨b, fun x hx => ?_⟩
    obtain ⟨d, hd, z⟩ := repA_mem r hx
    obtain ⟨f1, e⟩ := h d hd
    exact ⟨_, flat_key f1 z, e⟩
  · refine .inr ⟨b, sh, fun x hx => ?_⟩
    obtain ⟨d, hd, z⟩ := repA_mem r hx
    obtain ⟨ds', rfl, f1, e⟩ := h d hd
    obtain ⟨t, ws, rfl, z1, z2⟩ := z
    exact ⟨t, ws, _, rfl, z1.sq, flat_keys f1 z2, by rw [List.map_map]; exact e⟩
theorem pair_rep {S : V → V → Prop} {T : D → D → Prop} (h : ∀ x y d e, Rep K H M d x → Rep K H M e y → S x y → T d e) : ∀ {ds : List D} {vs : List V}, RepA K H M ds vs → vs.Pairwise S → ds.Pairwise T
  | [], _, _, _ => .nil
  | d :: ds, vs, r, p => by
    obtain ⟨v, r', rfl, z1, z2⟩ := r
    obtain ⟨p1, p2⟩ := List.pairwise_cons.mp p
    refine List.pairwise_cons.mpr ⟨fun e he => ?_, pair_rep h z2 p2⟩
    obtain ⟨i, hi, ee⟩ := List.getElem_of_mem he
    obtain ⟨y, hy, ry⟩ := z2.get (i := i) (d := e) (by rw [List.getElem?_eq_getElem hi, ee])
    exact h _ _ _ _ z1 ry (p1 y (List.mem_of_getElem? hy))
end
theorem Srtb.mono {K : PySem.W.Frag} {H H' : Hp} {xs : List V} (s : ∀ a vs, SqT K H a vs → SqT K H' a vs) (h : Srtb K H xs) : Srtb K H' xs := by
  rcases h with h | ⟨b, sh, h⟩
  · exact .inl h
  · exact .inr ⟨b, sh, fun x hx => let ⟨t, vs, ks, e, q, r⟩ := h x hx; ⟨t, vs, ks, e, s _ _ q, r⟩⟩
def fSorted : F1 := fun ds q => match ds with
  | [.lst ds] => SrtbD ds ∧ q .nw (.lst (sortD ds))
  | _ => False
section
variable {X : Cx}
theorem snd_sorted : SndC X.K (rSorted2 X.K) fSorted := by
  intro B H δ σ vs ds q Q r h hf ok
  unfold fSorted at hf
  split at hf
  · obtain ⟨v, rfl, p, ws, rfl, z, z2⟩ := h.one
    obtain ⟨hs, hf⟩ := hf
    refine ⟨p, ws, rfl, z, (hs.srtb z2).mono fun _ _ => SqT.mono fun _ _ => rd_cut, fun ys l p1 p2 hl => ?_⟩
    obtain ⟨es, e1, e2⟩ := repA_perm p1.symm z2
    have ee : es = sortD _ := sortD_eq hs e1 (by
      have key := fun {d : D} (hd : d ∈ es) {v : V} (r : Rep X.K (Frz B H δ σ) none d v) => hs.key (e1.mem_iff.mp hd) r
      have up : ∀ {x : V} {k : List SK}, KeyOf X.K (Frz B H δ σ) x k → KeyOf X.K H x k := fun {x k} h => by
        rcases h with h | ⟨t, vs, e, q, r⟩
        · exact .inl h
        · exact .inr ⟨t, vs, e, SqT.mono (fun _ _ => rd_cut) q, r⟩
      have go : ∀ {ds : List D} {vs : List V}, (∀ d ∈ ds, d ∈ es) → RepA X.K (Frz B H δ σ) none ds vs → vs.Pairwise (fun x y => ∀ kx ky, KeyOf X.K H x kx → KeyOf X.K H y ky → lexS ky kx = false) → ds.Pairwise fun a b => lexS (keyL b) (keyL a) = false := by
        intro ds
        induction ds with
        | nil => intro vs _ _ _; exact .nil
        | cons d ds ih =>
          intro vs hm r p
          obtain ⟨v, r', rfl, z1, z2⟩ := r
          obtain ⟨q1, q2⟩ := List.pairwise_cons.mp p
          refine List.pairwise_cons.mpr ⟨fun e he => ?_, ih (fun d hd => hm d (List.mem_cons_of_mem _ hd)) z2 q2⟩
          obtain ⟨i, hi, ee⟩ := List.getElem_of_mem he
          obtain ⟨y, hy, ry⟩ := z2.get (i := i) (d := e) (by rw [List.getElem?_eq_getElem hi, ee])
          exact q1 y (List.mem_of_getElem? hy) _ _ (up (key (hm d (by simp)) z1)) (up (key (hm e (List.mem_cons_of_mem _ he)) ry))
      exact go (fun _ z => z) e2 p2)
    rw [← ee] at hf
    exact ok _ _ _ _ (same_upd' hl) (resLst r hl e2) hf
  · exact hf.elim
end
end DL

set_option Elab.async false
set_option linter.all false
set_option maxRecDepth 100000
namespace DL
open PySem PySem.Spec PyProof.Rows L2

/-! ### min, max of two texts -/
section
variable {prog : Program} {w : World} {A : Around} {E : Value → Shared → Prop} {s : Shared}
/-- the walk over (a, b) that min(a, b), max(a, b) make -/
theorem two_walk {a b : Value} {op : CmpOp} {bt : Nat → Nat → Bool} {Q : Value → Shared → Prop} (hh : A.handled = none) (hc : CmpOf prog w A.in1 op (fun i v => (#[a, b] : Array Value)[i]? = some v) bt)
    (h : ∀ h' tk, (∀ c o, s.heap.get? c = some o → h'.get? c = some o) → Q (if bt 1 0 = true then b else a) { s with heap := h', toks := tk }) :
    wpAny (model prog w) A.in1 (pyIter (.ref s.heap.objs.size)) (fun it s₂ => ∃ I fp wr n P St bt, it = .ref I ∧ Walks prog w A.in1 I fp wr n P St ∧ St 0 s₂.heap ∧ (∀ b ∈ fp, b < s₂.heap.objs.size) ∧ 0 < n ∧ CmpOf prog w A.in1 op P bt ∧
      ∀ v h' tk, P (argBest bt (n - 1)) v → (∀ b o, b ∉ wr → s₂.heap.get? b = some o → h'.get? b = some o) → Q v { s₂ with heap := h', toks := tk }) E { s with heap := s.heap.push { cls := .type "tuple", data := .seq #[a, b] } } := by
  let ob : Obj := { cls := .type "tuple", data := .seq #[a, b] }
  have tup : (s.heap.push ob).IsTuple s.heap.objs.size #[a, b] := ⟨ob, Heap.get?_push_size _ rfl, rfl, 0, rfl⟩
  have size : (s.heap.push ob).objs.size = s.heap.objs.size + 1 := Heap.size_push ..
  refine wpAny_pyIter_tuple tup ?_
  refine ⟨_, [(s.heap.push ob).objs.size, s.heap.objs.size], [(s.heap.push ob).objs.size], 2, _, _, bt, rfl, Walks.tuple (A := A.in1) hh _ s.heap.objs.size (by rw [size]; exact Nat.ne_of_lt (Nat.lt_succ_self _)) #[a, b], ⟨⟨_, Heap.get?_push_size _ rfl, rfl, rfl⟩, tup.push _⟩, ?_, by decide, hc, ?_⟩
  · intro c hm
    show c < ((s.heap.push ob).push _).objs.size
    rw [Heap.size_push, size]
    rw [size] at hm
    replace hm : c = s.heap.objs.size + 1 ∨ c = s.heap.objs.size := by simpa using hm
    rcases hm with e | e
    · exact Nat.lt_of_le_of_lt (Nat.le_of_eq e) (Nat.lt_succ_self _)
    · exact Nat.lt_of_le_of_lt (Nat.le_of_eq e) (Nat.lt_succ_of_lt (Nat.lt_succ_self _))
  · intro v h' tk hP hk
    have old : ∀ c o, s.heap.get? c = some o → h'.get? c = some o := fun c o e => by
      have e1 := Heap.get?_push_of_some ob e
      refine hk c o (fun hm => ?_) (Heap.get?_push_of_some _ e1)
      have lt := Heap.lt_size e
      rw [size] at hm
      rw [List.mem_singleton.mp hm] at lt
      exact Nat.lt_irrefl _ (Nat.lt_of_succ_lt lt)
    have ev : v = if bt 1 0 = true then b else a := by
      have e : argBest bt (2 - 1) = if bt 1 0 = true then 1 else 0 := rfl
      replace hP : (#[a, b] : Array Value)[argBest bt (2 - 1)]? = some v := hP
      rw [e] at hP
      split at hP
      · rename_i q
        rw [if_pos q]
        exact (Option.some.inj hP).symm
      · rename_i q
        rw [if_neg q]
        exact (Option.some.inj hP).symm
    subst ev
    exact h h' tk old
/-- the item's text -/
def txtAt (x y : Str) : Nat → List Nat
  | 0 => x.cps.toList
  | _ => y.cps.toList
theorem txtAt_of {x y : Str} {t u : Tok} {i : Nat} {v : Value} (h : (#[.str x t, .str y u] : Array Value)[i]? = some v) : ∃ z k, v = .str z k ∧ z.cps.toList = txtAt x y i := by
  match i, h with
  | 0, h => exact ⟨x, t, (Option.some.inj h).symm, rfl⟩
  | 1, h => exact ⟨y, u, (Option.some.inj h).symm, rfl⟩
  | n + 2, h => simp at h
theorem cmp_gt_txt (x y : Str) (t u : Tok) : CmpOf prog w A .Gt (fun i v => (#[.str x t, .str y u] : Array Value)[i]? = some v) fun i j => decide (txtAt x y j < txtAt x y i) := by
  intro i j vi vj s Q E hi hj q
  obtain ⟨a, ta, rfl, ea⟩ := txtAt_of hi
  obtain ⟨b, tb, rfl, eb⟩ := txtAt_of hj
  replace q : Q (.bool (decide (txtAt x y j < txtAt x y i))) s := q
  rw [← ea, ← eb] at q
  exact richCompare_gives (op := .Gt) (typeIs_str s a ta) (typeIs_str s b tb) F.slot_str_gt F.entry_str_gt (F.args_str_gt_2 _ _) (gives_str_gt a b ta tb) (fun e => nomatch e) q
theorem cmp_lt_txt (x y : Str) (t u : Tok) : CmpOf prog w A .Lt (fun i v => (#[.str x t, .str y u] : Array Value)[i]? = some v) fun i j => decide (txtAt x y i < txtAt x y j) := by
  intro i j vi vj s Q E hi hj q
  obtain ⟨a, ta, rfl, ea⟩ := txtAt_of hi
  obtain ⟨b, tb, rfl, eb⟩ := txtAt_of hj
  replace q : Q (.bool (decide (txtAt x y i < txtAt x y j))) s := q
  rw [← ea, ← eb] at q
  exact richCompare_gives (op := .Lt) (typeIs_str s a ta) (typeIs_str s b tb) F.slot_str_lt F.entry_str_lt (F.args_str_lt_2 _ _) (gives_str_lt a b ta tb) (fun e => nomatch e) q
end
section
variable {X : Cx} {W : WX}
/-- the lesser, the greater one of two texts -/
def minT (i j : Str) : Str := if j.cps.toList < i.cps.toList then j else i
def maxT (i j : Str) : Str := if i.cps.toList < j.cps.toList then j else i
def rTwoT (g : Str → Str → Str) : List V → Hp → VK → Prop := fun xs H Q => ∃ i j, xs = [.str i, .str j] ∧ Q (.str (g i j)) H
theorem call_maxT (hc : X.calm = true) : CallR X (.builtin "max") (rTwoT maxT) := by
  rintro pins s σ H xs us Q I r ⟨i, j, rfl, q⟩
  obtain ⟨_, _, rfl, ⟨t, rfl⟩, t', rfl⟩ := vals2 r
  refine call_max_two (two_walk (I.ok.hd hc) (cmp_gt_txt i j t t') fun h' tk k => ⟨.str (maxT i j), H, I.kept k, ?_, q⟩)
  unfold maxT
  by_cases z : i.cps.toList < j.cps.toList
  · rw [if_pos z]
    exact ⟨_, if_pos (decide_eq_true z)⟩
  · rw [if_neg z]
    exact ⟨_, if_neg (fun y => z (of_decide_eq_true y))⟩
theorem call_minT (hc : X.calm = true) : CallR X (.builtin "min") (rTwoT minT) := by
  rintro pins s σ H xs us Q I r ⟨i, j, rfl, q⟩
  obtain ⟨_, _, rfl, ⟨t, rfl⟩, t', rfl⟩ := vals2 r
  refine call_min_two (two_walk (I.ok.hd hc) (cmp_lt_txt i j t t') fun h' tk k => ⟨.str (minT i j), H, I.kept k, ?_, q⟩)
  unfold minT
  by_cases z : j.cps.toList < i.cps.toList
  · rw [if_pos z]
    exact ⟨_, if_pos (decide_eq_true z)⟩
  · rw [if_neg z]
    exact ⟨_, if_neg (fun y => z (of_decide_eq_true y))⟩
/-- min, max of two ints or two texts -/
def fMinX : F1 := fun ds q => match ds with
  | [.int i, .int j] => q .fz (.int (if j < i then j else i))
  | [.str i, .str j] => q .fz (.str (minT i j))
  | _ => False
def fMaxX : F1 := fun ds q => match ds with
  | [.int i, .int j] => q .fz (.int (if j > i then j else i))
  | [.str i, .str j] => q .fz (.str (maxT i j))
  | _ => False
def rMinX : List V → Hp → VK → Prop := fun xs H Q => (∃ i j, xs = [.int i, .int j] ∧ Q (.int (if j < i then j else i)) H) ∨ rTwoT minT xs H Q
def rMaxX : List V → Hp → VK → Prop := fun xs H Q => (∃ i j, xs = [.int i, .int j] ∧ Q (.int (if j > i then j else i)) H) ∨ rTwoT maxT xs H Q
theorem call_minX (hc : X.calm = true) : CallR X (.builtin "min") rMinX := (call_min2 hc).or (call_minT hc)
theorem call_maxX (hc : X.calm = true) : CallR X (.builtin "max") rMaxX := (call_max2 hc).or (call_maxT hc)
theorem BRepA.strs2 {K : PySem.W.Frag} {H Z : Hp} {i j : Str} {vs : List V} (h : BRepA K H Z [.str i, .str j] vs) : vs = [.str i, .str j] := by
  obtain ⟨v, w, rfl, z, y⟩ := h.two
  cases z.str
  cases y.str
  rfl
theorem snd_minX : SndC X.K rMinX fMinX := by
  intro B H δ σ vs ds q Q r h hf ok
  unfold fMinX at hf
  split at hf
  · exact .inl ⟨_, _, h.ints2, ok _ _ _ _ (Same.refl H) (SRep.res (d := .int _) rfl) hf⟩
  · exact .inr ⟨_, _, h.strs2, ok _ _ _ _ (Same.refl H) (SRep.res (d := .str _) rfl) hf⟩
  · exact hf.elim
theorem snd_maxX : SndC X.K rMaxX fMaxX := by
  intro B H δ σ vs ds q Q r h hf ok
  unfold fMaxX at hf
  split at hf
  · exact .inl ⟨_, _, h.ints2, ok _ _ _ _ (Same.refl H) (SRep.res (d := .int _) rfl) hf⟩
  · exact .inr ⟨_, _, h.strs2, ok _ _ _ _ (Same.refl H) (SRep.res (d := .str _) rfl) hf⟩
  · exact hf.elim
end
end DL

set_option Elab.async false
set_option linter.all false
set_option maxRecDepth 100000
namespace DL
open PySem PySem.Spec PyProof.Rows L2

/-! ### dict(..) of pairs -/
section
variable {X : Cx} {W : WX}
theorem pair_vals {pins : List (Addr × Obj)} {σ : St} {H : Hp} {s : Shared} (I : Inv X pins σ H s) : ∀ {ps : List Addr} {kvs : List (Key × V)}, Paired (fun p kv => SqT X.K H p [kV kv.1, kv.2]) ps kvs →
    ∃ (prs : List (Key × Value)) (us : List (Value × Value)), KV kvs prs ∧ us.length = ps.length ∧ prs.length = ps.length ∧
      ∀ (j : Nat) (k v : Value), us[j]? = some (k, v) → ∃ b c, ps[j]? = some b ∧ IsTup s.heap b #[k, v] ∧ prs[j]? = some (c, v) ∧ (mixKind X.prog X.w).is c k = true
  | _, _, .nil => ⟨[], [], .nil, rfl, rfl, fun j k v e => nomatch e⟩
  | _, _, Paired.cons (a := p) (b := kv) h t => by
    obtain ⟨prs, us, r, l1, l2, f⟩ := pair_vals I t
    obtain ⟨its, rv, tup, _⟩ := I.tuple h
    obtain ⟨u, y, rfl, ru, ry⟩ := vals2 rv
    refine ⟨(kv.1, y) :: prs, (u, y) :: us, .cons ⟨rfl, ry⟩ r, congrArg Nat.succ l1, congrArg Nat.succ l2, ?_⟩
    intro j k v e
    cases j with
    | zero =>
      cases (Option.some.inj e)
      exact ⟨p, kv.1, rfl, tup, rfl, kV_is ru⟩
    | succ j => exact f j k v e
/-- dict(t), t a tuple of pairs (key, value) -/
def rDictT (K : PySem.W.Frag) : List V → Hp → VK → Prop := fun xs H Q => ∃ (a : Addr) (ps : List Addr) (kvs : List (Key × V)), xs = [.ref a] ∧ TupP H a (ps.map V.ref) ∧ Paired (fun p kv => SqT K H p [kV kv.1, kv.2]) ps kvs ∧
  ∀ p, H p = none → Q (.ref p) (upd H p (.dK (mergeK [] kvs)))
theorem call_dictT (hcalm : X.calm = true) : CallR X (.type "dict") (rDictT X.K) := by
  rintro pins s σ H xs us Q I r ⟨a, ps, kvs, rfl, ⟨ob, hob, nod⟩, hp, q⟩
  obtain ⟨_, rfl, rfl⟩ := vals1 r
  obtain ⟨hget, hlen, its, rv, ob', hget', hcls, n, hdat⟩ : _ ∧ _ := I.hok a _ hob
  rw [hget] at hget'
  cases hget'
  have ei := refs_at rv
  subst ei
  rw [List.length_map] at hlen
  obtain ⟨prs, us, rel, l1, l2, f⟩ := pair_vals I hp
  have plain : PlainSeq "tuple" s.heap a (ps.map Value.ref).toArray := ⟨ob, n, hget, hcls, nod, hdat⟩
  have items : PairItems s.heap (ps.map Value.ref).toArray (fun j => (ps[j]?).getD 0) us := by
    refine ⟨by simp [l1], fun j k v e => ?_⟩
    obtain ⟨b, c, e1, e2, _⟩ := f j k v e
    refine ⟨by simp [e1], .inl ?_⟩
    show s.heap.IsTuple ((ps[j]?).getD 0) #[k, v]
    rw [e1]
    exact e2
  refine PySem.call_dict_pairs (knd := mixKind X.prog X.w) (kvs := prs) (PairArg.tuple a (ps.map Value.ref).toArray (fun j => (ps[j]?).getD 0) us) (I.ok.hd hcalm) ⟨plain, items⟩ ⟨l2.trans l1.symm, fun i k v e => ?_⟩ (by omega) fun h' tk hd' k => ?_
  · obtain ⟨b, c, _, _, e3, e4⟩ := f i k v e
    exact ⟨c, e3, e4⟩
  · have sys : (s.heap.objs.size == sysModules) = false := beq_eq_false_iff_ne.mpr (Nat.ne_of_gt I.big)
    have few : (mergeK [] kvs).length ≤ sizeLine := by
      have z := length_mergeK kvs []
      have y := rel.length
      rw [List.length_nil] at z
      omega
    refine ⟨.ref s.heap.objs.size, _, I.laid (o := .dK (mergeK [] kvs)) (t' := tk) (fun b o e => k b o (fun z => nomatch z) e) (Nat.le_refl _) ?_, rfl, q _ (I.hok.fresh (Nat.le_refl _))⟩
    show _ ∧ _
    exact ⟨few, sys, merged [] prs, KV.merge rel .nil, hd'⟩
/-- the pairs (key, value) as a dict's entries -/
def pairsD : List D → Option (List (Key × D))
  | [] => some []
  | .tup [k, d] :: r => match keyD k, pairsD r with
    | some c, some m => some ((c, d) :: m)
    | _, _ => none
  | _ => none
def mergeD (acc kds : List (Key × D)) : List (Key × D) := kds.foldl (fun acc kv => putD acc kv.1 kv.2) acc
theorem RepK.merge {K : PySem.W.Frag} {H : Hp} {M : Option Hp} : ∀ {kds : List (Key × D)} {kvs : List (Key × V)} {acc : List (Key × D)} {accv : List (Key × V)}, RepK K H M kds kvs → RepK K H M acc accv → RepK K H M (mergeD acc kds) (mergeK accv kvs)
  | [], kvs, acc, accv, h, g => by
    cases (show kvs = [] from h)
    exact g
  | (c, d) :: r, kvs, acc, accv, h, g => by
    obtain ⟨v, s, rfl, h1, h2⟩ := h
    exact RepK.merge (kds := r) (kvs := s) (acc := putD acc c d) (accv := putK accv c v) h2 (RepK.put c h1 g)
theorem pairs_rep {K : PySem.W.Frag} {Z : Hp} : ∀ {ds : List D} {vs : List V} {m : List (Key × D)}, pairsD ds = some m → RepA K Z none ds vs →
    ∃ ps kvs, vs = ps.map V.ref ∧ RepK K Z none m kvs ∧ Paired (fun p kv => SqT K Z p [kV kv.1, kv.2]) ps kvs
  | [], vs, m, e, h => by
    cases e
    exact ⟨[], [], h, rfl, .nil⟩
  | d :: ds, vs, m, e, h => by
    unfold pairsD at e
    split at e
    · rename_i h0
      cases h0
    · rename_i k d r h0
      cases h0
      split at e
      · rename_i c m' ec em
        cases e
        obtain ⟨v, w, rfl, ⟨a, ts, rfl, tp, kv, ts', rfl, rk, dv, ts2, rfl, rd, rn⟩, h2⟩ := h
        cases (show ts2 = [] from rn)
        obtain ⟨ps, kvs, rfl, r1, r2⟩ := pairs_rep em h2
        refine ⟨a :: ps, (c, dv) :: kvs, rfl, ⟨dv, kvs, rfl, rd, r1⟩, .cons ?_ r2⟩
        have ek := keyD_rep ec rk
        subst ek
        exact tp.sq
      · cases e
    · cases e
def fDict : F1 := fun ds q => match ds with
  | [.tup ds] => ∃ m, pairsD ds = some m ∧ q .nw (.dic (mergeD [] m))
  | [.lst ds] => ∃ m, pairsD ds = some m ∧ q .nw (.dic (mergeD [] m))
  | _ => False
def rDictL (K : PySem.W.Frag) : List V → Hp → VK → Prop := fun xs H Q => ∃ (a : Addr) (ps : List Addr) (kvs : List (Key × V)), xs = [.ref a] ∧ SqL K H a (ps.map V.ref) ∧ Paired (fun p kv => SqT K H p [kV kv.1, kv.2]) ps kvs ∧
  ∀ p, H p = none → Q (.ref p) (upd H p (.dK (mergeK [] kvs)))
def rDict (K : PySem.W.Frag) : List V → Hp → VK → Prop := fun xs H Q => rDictT K xs H Q ∨ rDictL K xs H Q
theorem call_dict (hc : X.calm = true) : CallR X (.type "dict") (rDict X.K) := (call_dictT hc).or (call_dictP hc)
theorem pair_up {K : PySem.W.Frag} {H Z : Hp} (s : Same Z H) {ps : List Addr} {kvs : List (Key × V)} (h : Paired (fun p kv => SqT K Z p [kV kv.1, kv.2]) ps kvs) : Paired (fun p (kv : Key × V) => SqT K H p [kV kv.1, kv.2]) ps kvs :=
  Paired.mapP h fun _ _ => SqT.mono fun _ _ => Same.rd s
theorem snd_dict : SndC X.K (rDict X.K) fDict := by
  intro B H δ σ vs ds q Q r h hf ok
  unfold fDict at hf
  split at hf
  · obtain ⟨v, rfl, p, ws, rfl, z, z2⟩ := h.one
    obtain ⟨m, em, hf⟩ := hf
    obtain ⟨ps, kvs, rfl, r1, r2⟩ := pairs_rep em z2
    exact .inl ⟨p, ps, kvs, rfl, tp_cut z, pair_up (cut_le _ _) r2, fun l hl => ok _ _ .nw (.dic (mergeD [] m)) (same_upd' hl) ⟨l, rfl, hl, newDic r hl (RepK.merge r1 rfl)⟩ hf⟩
  · obtain ⟨v, rfl, p, ws, rfl, z, z2⟩ := h.one
    obtain ⟨m, em, hf⟩ := hf
    obtain ⟨ps, kvs, rfl, r1, r2⟩ := pairs_rep em z2
    exact .inr ⟨p, ps, kvs, rfl, z, pair_up (cut_le _ _) r2, fun l hl => ok _ _ .nw (.dic (mergeD [] m)) (same_upd' hl) ⟨l, rfl, hl, newDic r hl (RepK.merge r1 rfl)⟩ hf⟩
  · exact hf.elim
end
end DL

set_option Elab.async false
set_option linter.all false
set_option maxRecDepth 100000
namespace DL
open PySem PySem.Spec PyProof.Rows L2

/-! ### a dict that is walked: locked meanwhile -/
def softS : Sl → Sl
  | .fr d => .sh d
  | s => s
def soft (δ : DSt) : DSt := δ.map softS
section
variable {K : PySem.W.Frag} {B : Bs} {H H2 : Hp} {δ : DSt} {σ : St} {d : Addr} {kvs : List (Key × V)} {od : Obj}
theorem soft_at (i : Nat) : (soft δ)[i]? = (δ[i]?).map softS := List.getElem?_map ..
theorem soft_ow {i : Nat} {x : D} : (soft δ)[i]? = some (Sl.ow x) ↔ δ[i]? = some (Sl.ow x) := by
  rw [soft_at]
  cases δ[i]? with
  | none => simp
  | some s => cases s <;> simp [softS]
theorem soft_own {a : Addr} : OwnA (soft δ) σ a ↔ OwnA δ σ a := by
  constructor
  · rintro ⟨i, x, e1, e2⟩
    exact ⟨i, x, soft_ow.mp e1, e2⟩
  · rintro ⟨i, x, e1, e2⟩
    exact ⟨i, x, soft_ow.mpr e1, e2⟩
theorem soft_hid {a : Addr} : Hid B (soft δ) σ a ↔ Hid B δ σ a := or_congr soft_own Iff.rfl
theorem soft_frz : Frz B H (soft δ) σ = Frz B H δ σ := by
  have e : Hid B (soft δ) σ = Hid B δ σ := funext fun a => propext soft_hid
  unfold Frz
  rw [e]
theorem noOw_soft : ∀ {vs : List Nat}, noOw vs (soft δ) ↔ noOw vs δ
  | [] => Iff.rfl
  | i :: vs => by
    refine and_congr ?_ noOw_soft
    rw [getS_at, getS_at, soft_at]
    cases δ[i]? with
    | none => exact Iff.rfl
    | some s => cases s <;> exact Iff.rfl
/-- what may be read stays so when a dict is locked, and when it is set free -/
theorem mv_lock {P : Addr → Prop} (hd : H d = some (.dK kvs)) : Mv K (cut H P) (cut (upd H d (.frz od (.dK kvs))) P) none none := by
  have other : ∀ b o, b ≠ d → cut H P b = some o → cut (upd H d (.frz od (.dK kvs))) P b = some o := fun b o n e => by
    obtain ⟨e1, e2⟩ := cut_some.mp e
    exact cut_some.mpr ⟨e1, by rw [upd_ne n]; exact e2⟩
  have rd : ∀ b u, Rd (cut H P) b u → Rd (cut (upd H d (.frz od (.dK kvs))) P) b u := fun b u h => by
    by_cases n : b = d
    · subst n
      rcases h with h | ⟨o, h⟩
      · obtain ⟨e1, e2⟩ := cut_some.mp h
        rw [hd] at e2
        cases e2
        exact .inr ⟨od, cut_some.mpr ⟨e1, upd_same⟩⟩
      · rw [(cut_some.mp h).2] at hd
        cases hd
    · rcases h with h | ⟨o, h⟩
      · exact .inl (other _ _ n h)
      · exact .inr ⟨o, other _ _ n h⟩
  refine ⟨fun a vs h => SqL.mono rd h, fun a vs h => rd _ _ h, fun a vs h => ?_, fun a vs h => other _ _ (fun n => by subst n; rw [(cut_some.mp h).2] at hd; cases hd) h, fun a vs h => rd _ _ h⟩
  obtain ⟨ob, e, z⟩ := h
  refine ⟨ob, other _ _ (fun n => ?_) e, z⟩
  subst n
  rw [(cut_some.mp e).2] at hd
  cases hd
theorem mv_free {P : Addr → Prop} (hd : H2 d = some (.frz od (.dK kvs))) : Mv K (cut H2 P) (cut (upd H2 d (.dK kvs)) P) none none := by
  have other : ∀ b o, b ≠ d → cut H2 P b = some o → cut (upd H2 d (.dK kvs)) P b = some o := fun b o n e => by
    obtain ⟨e1, e2⟩ := cut_some.mp e
    exact cut_some.mpr ⟨e1, by rw [upd_ne n]; exact e2⟩
  have rd : ∀ b u, (∀ o w, u ≠ .frz o w) → Rd (cut H2 P) b u → Rd (cut (upd H2 d (.dK kvs)) P) b u := fun b u hu h => by
    by_cases n : b = d
    · subst n
      rcases h with h | ⟨o, h⟩
      · obtain ⟨e1, e2⟩ := cut_some.mp h
        rw [hd] at e2
        cases e2
        exact absurd rfl (hu _ _)
      · obtain ⟨e1, e2⟩ := cut_some.mp h
        rw [hd] at e2
        cases e2
        exact .inl (cut_some.mpr ⟨e1, upd_same⟩)
    · rcases h with h | ⟨o, h⟩
      · exact .inl (other _ _ n h)
      · exact .inr ⟨o, other _ _ n h⟩
  refine ⟨fun a vs h => h.imp (rd _ _ fun o w z => nomatch z) _root_.id, fun a vs h => rd _ _ (fun o w z => nomatch z) h, fun a vs h => ?_, fun a vs h => other _ _ (fun n => by subst n; rw [(cut_some.mp h).2] at hd; cases hd) h, fun a vs h => rd _ _ (fun o w z => nomatch z) h⟩
  obtain ⟨ob, e, z⟩ := h
  refine ⟨ob, other _ _ (fun n => ?_) e, z⟩
  subst n
  rw [(cut_some.mp e).2] at hd
  cases hd
theorem rel_lock (r : DRel K B H δ σ) (hd : H d = some (.dK kvs)) (hB : B.hp d = none) (hh : ¬ Hid B δ σ d) : DRel K B (upd H d (.frz od (.dK kvs))) (soft δ) σ := by
  have old : ∀ b o, b ≠ d → H b = some o → upd H d (.frz od (.dK kvs)) b = some o := fun b o n e => by rw [upd_ne n]; exact e
  have nd : ∀ {a}, Hid B δ σ a → a ≠ d := fun z e => hh (by rw [← e]; exact z)
  refine ⟨by unfold soft; rw [List.length_map]; exact r.len, fun b o e => old b o (fun z => ?_) (r.base b o e), fun a ha => ?_, fun a ha => r.apart a (soft_own.mp ha), fun i j x y a e1 e2 => r.inj i j x y a (soft_ow.mp e1) (soft_ow.mp e2), fun i s e => ?_⟩
  · rw [z, hB] at e
    cases e
  · obtain ⟨z1, o, z2, z3⟩ := r.hide a ha
    exact ⟨z1, o, old _ _ (nd (.inr ha)) z2, z3⟩
  · have m : Mv K (Frz B H δ σ) (cut (upd H d (.frz od (.dK kvs))) (Hid B (soft δ) σ)) none none := by
      rw [show (Hid B (soft δ) σ) = Hid B δ σ from funext fun a => propext soft_hid]
      exact mv_lock hd
    rw [soft_at] at e
    cases es : δ[i]? with
    | none =>
      rw [es] at e
      cases e
    | some s' =>
      rw [es] at e
      have q := r.sl i s' es
      cases s' with
      | un =>
        cases e
        trivial
      | ex y b f =>
        cases e
        obtain ⟨e1, e2⟩ := q
        obtain ⟨z1, z2⟩ := cut_some.mp e2
        refine ⟨e1, cut_some.mpr ⟨fun z => z1 (soft_hid.mp z), old _ _ (fun n => ?_) z2⟩⟩
        rw [n, hd] at z2
        cases z2
      | sh x =>
        cases e
        obtain ⟨v, e1, e2⟩ := q
        exact ⟨v, e1, e2.mv m⟩
      | fr x =>
        cases e
        obtain ⟨v, e1, e2⟩ := q
        exact ⟨v, e1, e2.any.mv m⟩
      | ow x =>
        cases e
        obtain ⟨a, e1, e2, e3⟩ := q
        have na : a ≠ d := nd (.inl ⟨i, x, es, e1⟩)
        refine ⟨a, e1, e2, ?_⟩
        cases x with
        | lst ds =>
          obtain ⟨vs, z1, z2⟩ := e3
          exact ⟨vs, old _ _ na z1, z2.mv m⟩
        | dic kds =>
          obtain ⟨vs, z1, z2⟩ := e3
          exact ⟨vs, old _ _ na z1, RepK.mv m _ _ z2⟩
        | dtp kds => exact old _ _ na e3
        | _ => exact e3.elim
theorem res_free {dl : D} {v : V} (hd : H d = some (.dK kvs)) (s : Same (upd H d (.frz od (.dK kvs))) H2) (R : Res K B (upd H d (.frz od (.dK kvs))) H2 (soft δ) σ .nw dl v) :
    Same H (upd H2 d (.dK kvs)) ∧ Res K B H (upd H2 d (.dK kvs)) δ σ .nw dl v := by
  have at2 : H2 d = some (.frz od (.dK kvs)) := s _ _ upd_same
  refine ⟨fun b o e => ?_, ?_⟩
  · by_cases n : b = d
    · subst n
      rw [upd_same, ← hd, e]
    · rw [upd_ne n]
      exact s b o (by rw [upd_ne n]; exact e)
  · obtain ⟨a, rfl, n, o⟩ := R
    have na : a ≠ d := fun z => by
      rw [z, upd_same] at n
      cases n
    rw [upd_ne na] at n
    rw [show (Hid B (soft δ) σ) = Hid B δ σ from funext fun a => propext soft_hid] at o
    refine ⟨a, rfl, n, ?_⟩
    cases dl with
    | lst ds =>
      obtain ⟨vs, z1, z2⟩ := o
      exact ⟨vs, by rw [upd_ne na]; exact z1, z2.mv (mv_free at2)⟩
    | dic kds =>
      obtain ⟨vs, z1, z2⟩ := o
      exact ⟨vs, by rw [upd_ne na]; exact z1, RepK.mv (mv_free at2) _ _ z2⟩
    | dtp kds =>
      show (upd H2 d (.dK kvs)) a = _
      rw [upd_ne na]
      exact o
    | _ => exact o.elim
theorem dlv_keys {Z : Hp} {kds : List (Key × D)} (hz : Z d = some (.frz od (.dK kvs))) (e : kvs.map (·.1) = kds.map (·.1)) : Dlv K Z (Itk d od kvs) .sh (kds.map fun kv => keyToD kv.1) := by
  have el : kvs.length = kds.length := by
    have := congrArg List.length e
    rwa [List.length_map, List.length_map] at this
  refine ⟨fun H s => ⟨s _ _ hz, by rw [List.length_map, el]; exact Nat.le_refl _⟩, fun H i s hi => ⟨s _ _ hz, by rw [el]; rwa [List.length_map] at hi⟩, fun H i x H' s hi y => ?_⟩
  obtain ⟨rfl, k, v, ek, rfl⟩ := y
  have ek' : (kds.map (·.1))[i]? = some k := by rw [← e, List.getElem?_map, ek] <;> rfl
  rw [List.getElem?_map] at ek'
  cases q : kds[i]? with
  | none =>
    rw [q] at ek'
    cases ek'
  | some kv =>
    rw [q] at ek'
    cases ek'
    exact ⟨_, by rw [List.getElem?_map, q] <;> rfl, .inl ⟨rfl, keyToD_rep _, rfl⟩⟩
end

/-! ### [.. for k in d ..], d a slot's dict that is new since the def's entry -/
def eLcK (i : Nat) (own : List Nat) (tg : GT) (tst : BT) (elt : ET) : ET := fun _ δ q => match getS δ i with
  | .fr (.dic kds) => (noOw own δ ∧ kds.length ≤ sizeLine) ∧ lcR .sh tg tst elt (forget own (soft δ)) (kds.map fun kv => keyToD kv.1) fun ys => q .nw (.lst ys)
  | _ => False
section
variable {X : Cx} {W : WX} {g : GT} {ws vs : List Nat} {tst : BT} {elt : ET}
theorem lift_lcK (i : Nat) (hw : ∀ j ∈ ws, j ∈ vs) (hm : 1000 ∉ ws) : ∀ σ H Q, Lift X.K W (eLcK i vs g tst elt) σ H Q → tLockE (tLc (iKeys (tVar i)) (LiftG X.K ws g) (LiftT X.K W0 tst) (Lift X.K W0 elt) vs) σ H Q := by
  rintro σ H Q ⟨B, δ, e, q, r, h, ok, bad⟩
  unfold eLcK at h
  split at h
  · rename_i kds hg
    obtain ⟨v, ev, a, kvs, rfl, ⟨hB, hz⟩, rk⟩ := r.sl i _ (getS_some hg (fun z => nomatch z))
    obtain ⟨nh, hd⟩ := cut_some.mp hz
    refine ⟨a, .dK kvs, hd, trivial, fun od => ?_⟩
    have rl := rel_lock (od := od) r hd hB nh
    refine ⟨.ref a, ev, a, od, rfl, .inl ⟨kvs, upd_same, ?_⟩⟩
    have free : (Frz B (upd H a (.frz od (.dK kvs))) (soft δ) σ) a = some (.frz od (.dK kvs)) := cut_some.mpr ⟨fun z => nh (soft_hid.mp z), upd_same⟩
    have go := lc_run (tst := tst) (elt := elt) (g := g) (Q := fun v H' => H' a = some (.frz od (.dK kvs)) ∧ Q v (upd H' a (.dK kvs))) (q := q .nw) hw hm rl (dlv_keys free rk.keys) ⟨⟨noOw_soft.mpr h.1.1, by rw [List.length_map]; exact h.1.2⟩, h.2⟩ fun v H' d s R hq => by
      obtain ⟨s2, R2⟩ := res_free hd s R
      exact ⟨s _ _ upd_same, ok v _ .nw d s2 R2 hq⟩
    exact go
  · exact h.elim
variable {own : List (Str × Nat)}
theorem de_lcK {eltx tg : Expr} {x : Str} {xpos : Pos} {ifs : List Expr} {scope : Scope} {pos : Pos} (i : Nat) (own : List (Str × Nat)) (hc : X.calm = true) (hN : X.N.Nodup) (ok : BlkOk X.N X.env.scope scope own)
    (hg : InBlk X scope fun Y => DG Y ws tg g) (ht : InBlk X scope fun Y => DTs Y W0 ifs tst) (he : InBlk X scope fun Y => DE Y W0 eltx elt)
    (hw : ∀ j ∈ ws, j ∈ own.map (·.2) := by decide) (hm : 1000 ∉ ws := by decide) (hi : X.N[i]? = some x := by rfl) (hv : Vis X.env.scope x := by first | exact Or.inl rfl | exact Or.inr (Or.inl rfl) | exact Or.inr (Or.inr rfl)) (hd : (x == ("__debug__" : Str)) = false := by decide)
    (hcd : (x == ("__classdict__" : Str)) = false := by decide) (hs : ∀ y, foldedSetIterable (.Name x xpos) X.env y = pure y := by intro _; rfl) :
    DE X W (.ListComp eltx [⟨tg, .Name x xpos, ifs, 0⟩] scope pos) (eLcK i (own.map (·.2)) g tst elt) :=
  PE.imp (pe_lock (pe_lc hc hN (pi_keys (pv i hi hv hd hcd)) ok hg ht he hs)) (lift_lcK i hw hm)
theorem ds_setLcK {j : Nat} {y : Str} {py : Pos} {eltx tg : Expr} {x : Str} {xpos : Pos} {ifs : List Expr} {scope : Scope} {pos spos : Pos} (i : Nat) (own : List (Str × Nat)) (hc : X.calm = true) (hN : X.N.Nodup) (ok : BlkOk X.N X.env.scope scope own)
    (hg : InBlk X scope fun Y => DG Y ws tg g) (ht : InBlk X scope fun Y => DTs Y W0 ifs tst) (he : InBlk X scope fun Y => DE Y W0 eltx elt) (hsw : swapsWith (.ListComp eltx [⟨tg, .Name x xpos, ifs, 0⟩] scope pos) (some (.Name y py)) spos.line X.env = pure true)
    (hy : X.N[j]? = some y := by rfl) (hyl : X.env.scope.names.lookup y = some .local := by rfl)
    (hw : ∀ j ∈ ws, j ∈ own.map (·.2) := by decide) (hm : 1000 ∉ ws := by decide) (hi : X.N[i]? = some x := by rfl) (hv : Vis X.env.scope x := by first | exact Or.inl rfl | exact Or.inr (Or.inl rfl) | exact Or.inr (Or.inr rfl)) (hd : (x == ("__debug__" : Str)) = false := by decide)
    (hcd : (x == ("__classdict__" : Str)) = false := by decide) (hs : ∀ y, foldedSetIterable (.Name x xpos) X.env y = pure y := by intro _; rfl) :
    DS X W (.Assign [.Name y py] (.ListComp eltx [⟨tg, .Name x xpos, ifs, 0⟩] scope pos) spos) (sSet j (eLcK i (own.map (·.2)) g tst elt)) :=
  PS.imp (ps_lock (ps_setLc hc hN hy hyl hsw (pi_keys (pv i hi hv hd hcd)) ok hg ht he hs)) fun N σ H ⟨B, δ, E, r, h, nx, rt, bk, ct, xe⟩ =>
  lift_lcK (W := W) i hw hm σ H (fun v H => N.nx (σ.set j (some v)) H) ⟨B, δ, fun x => E.xe x δ, _, r, h, fun v H' g d s R hq => slot_ok r s R hq nx, fun cls dx H' x s xr hx => xe cls dx δ σ H' x (r.ext s) (DRel.frz_ext s) xr hx⟩
end
end DL

set_option Elab.async false
set_option linter.all false
set_option maxRecDepth 100000
namespace DL
open PySem PySem.Spec PyProof.Rows L2

/-! ### {k: v, ..} -/
def pairsE : List (ET × ET) → XQ → DSt → (List (Key × D) → Prop) → Prop
  | [], _, _, q => q []
  | (tk, tv) :: r, e, δ, q => tk e δ fun _ k => tv e δ fun g d => g.put (match keyD k with
    | some c => pairsE r e δ fun m => q ((c, d) :: m)
    | none => False)
def eDisp (trs : List (ET × ET)) : ET := fun e δ q => pairsE trs e δ fun m => m.length ≤ 15 ∧ q .nw (.dic (mergeD [] m))
section
variable {X : Cx} {W : WX} {pos : Pos}
abbrev lifts (K : PySem.W.Frag) (W : WX) (trs : List (ET × ET)) : List (TE × TE) := trs.map fun t => (Lift K W t.1, Lift K W t.2)
abbrev DPs (X : Cx) (W : WX) (pos : Pos) (keys : List (Option Expr)) (values : List Expr) (trs : List (ET × ET)) : Prop := PPs X pos keys values (lifts X.K W trs)
theorem dps_nil : DPs X W pos [] [] [] := pps_nil
theorem dps_cons {k v : Expr} {ks : List (Option Expr)} {vs : List Expr} {tk tv : ET} {trs : List (ET × ET)} (hk : DE X W k tk) (hv : DE X W v tv) (hr : DPs X W pos ks vs trs) : DPs X W pos (some k :: ks) (v :: vs) ((tk, tv) :: trs) := pps_cons hk hv hr
theorem lift_pairs {K : PySem.W.Frag} {B : Bs} {δ : DSt} {σ : St} {e : XQ} : ∀ (trs : List (ET × ET)) {H : Hp} {q : List (Key × D) → Prop} {Q : List (V × V) → Hp → Prop}, DRel K B H δ σ → pairsE trs e δ q →
    (∀ H' m kvs, Same H H' → RepK K (Frz B H' δ σ) none m kvs → q m → Q (kvs.map fun kv => (kV kv.1, kv.2)) H') → (∀ cls dx H' x, Same H H' → XRep K H' cls dx x → e x → W cls dx σ H') → tPairs (lifts K W trs) σ H Q
  | [], H, q, Q, r, h, ok, bad => ok H [] [] (Same.refl H) rfl h
  | (tk, tv) :: trs, H, q, Q, r, h, ok, bad => by
    refine ⟨B, δ, e, _, r, h, fun v1 H1 g1 d1 s1 R1 h1 => ?_, bad⟩
    refine ⟨B, δ, e, _, r.ext s1, h1, fun v2 H2 g2 d2 s2 R2 h2 => ?_, fun cls dx H' x s => bad cls dx H' x (s1.trans s)⟩
    obtain ⟨gb, h2⟩ := Tg.put_ne h2
    split at h2
    · rename_i c ec
      have r2 := (r.ext s1).ext s2
      have ev : v1 = kV c := keyD_rep ec ((R1.toB r).full (cut_le _ _))
      subst ev
      refine lift_pairs trs r2 h2 (fun H3 m kvs s3 rk hq => ?_) fun cls dx H' x s => bad cls dx H' x ((s1.trans s2).trans s)
      exact ok H3 ((c, d2) :: m) ((c, v2) :: kvs) ((s1.trans s2).trans s3) ⟨v2, kvs, rfl, Rep.same (DRel.frz_ext s3) (R2.toZ (r.ext s1) gb), rk⟩ hq
    · exact h2.elim
theorem de_disp {keys : List (Option Expr)} {values : List Expr} {trs : List (ET × ET)} (h : DPs X W pos keys values trs) (hall : keys.all (·.isSome) = true := by rfl) (hl : keys.length = values.length := by rfl) (h0 : keys ≠ [] := by exact fun z => nomatch z)
    (h15 : keys.length ≤ 15 := by decide) : DE X W (.Dict keys values pos) (eDisp trs) := PE.imp (pe_disp h hall hl h0 h15) fun σ H Q ⟨B, δ, e, q, r, h, ok, bad⟩ => by
  intro p hp
  have sp : Same H (upd H p (.dK [])) := same_upd' hp
  obtain ⟨rh, sh⟩ := r.hideMore (p := p) (o := .dK []) hp (fun _ z => by cases z) ⟨(fun _ _ z => by cases z), (fun _ z => by cases z), trivial⟩
  refine lift_pairs trs rh h (fun H2 m kvs s2 rk hq => ?_) fun cls dx H' x s => bad cls dx H' x (sp.trans s)
  have at2 : H2 p = some (.dK []) := s2 _ _ upd_same
  refine ⟨at2, kvs, rfl, by rw [rk.len]; exact hq.1, ?_⟩
  have s3 : Same H (upd H2 p (.dK (mergeK [] kvs))) := fun b o z => by
    rw [upd_ne (ne_of_none z hp)]
    exact s2 _ _ (sp _ _ z)
  refine ok _ _ .nw (.dic (mergeD [] m)) s3 ⟨p, rfl, hp, mergeK [] kvs, upd_same, RepK.same ?_ (RepK.merge rk rfl)⟩ hq.2
  intro b o z
  obtain ⟨z1, z2⟩ := cut_some.mp z
  have nb : b ≠ p := fun y => z1 (.inr (.inr y))
  refine cut_some.mpr ⟨fun y => ?_, by rw [upd_ne nb]; exact z2⟩
  rcases y with (y | y) | y
  · exact z1 (.inl y)
  · exact z1 (.inr (.inl y))
  · exact nb y
end
end DL

set_option Elab.async false
set_option linter.all false
set_option maxRecDepth 100000
namespace DL
open PySem PySem.Spec PyProof.Rows L2

/-! ### defs by name -/
section
variable {P : Program} {w : World} {K : PySem.W.Frag} {mg : Str → Option Value} {base : Heap} {k : Nat}
abbrev FnP (K : PySem.W.Frag) (x : Str) (st : Stmt) (f : Addr) (fd : FuncData) : Prop := FunD K x x (defArgs st) (defBody st) (defScope st) [] [] f fd
/-- the def x of level k keeps sp -/
structure Cal (P : Program) (w : World) (K : PySem.W.Frag) (mg : Str → Option Value) (base : Heap) (k : Nat) (x : Str) (ps : List Str) (sp : SpT) : Prop where
  ex : ∃ f fd, FnOk P w K mg base (L2.CX P w) k f fd ps (SpD K sp) ∧ mg x = some (.ref f) ∧ PySem.W.keepIn K (.ref f) = true ∧ Binds K fd ps []
/-- THE RULE for a def -/
theorem fn_by {x : Str} {st : Stmt} {f : Addr} {fd : FuncData} {N ps : List Str} {sp : SpT} (F : FnP K x st f fd) (S : FnScope N ps (defScope st)) (len : ∀ ds e q, sp ds e q → ds.length = ps.length) (t : ST)
    (ht : ∀ (cdv : Value) (A : Around) (outer : List Env) (s : Shared) (H : Hp) (E : XK), Room k (A.deeper (envOfC x (defScope st) s.heap.objs.size f cdv)) → Takes (cxOf (L2.CX P w) P w K mg base N x (defScope st) f cdv A outer s H E) (WD E) →
      DSs (cxOf (L2.CX P w) P w K mg base N x (defScope st) f cdv A outer s H E) (WD E) (defBody st) t)
    (hq : ∀ ds e q, sp ds e q → t { nx := fun _ => q .non, rt := q, xe := fun x _ => e x } (startD N ds)) : FnOk P w K mg base (L2.CX P w) (k + 1) f fd ps (SpD K sp) := by
  refine F.ok S (fun vs H Q E ⟨ds, e, q, ra, h, _⟩ => ra.len.trans (len ds e q h)) fun cdv A outer s H vs Q E hr ⟨ds, e, q, ra, h, ok, bad⟩ => ?_
  refine ⟨_, ht cdv A outer s H E hr (takes_of rfl rfl rfl rfl), ⟨H, fun _ => False⟩, startD N ds, _, start_rel ra, hq ds e q h, fun δ' σ' H' r' s' z => ?_, fun v H' d s' R z => ok v H' d s' (R.elim id fun q => q.1.elim) z, fun _ _ _ _ _ z => z.elim, fun _ _ _ _ _ z => z.elim, fun cls dx δ' σ' H' x r' s' xr z => bad cls dx H' x r'.base xr z⟩
  exact ok .non H' .non r'.base rfl z
theorem cal_of {x : Str} {f : Addr} {fd : FuncData} {ps : List Str} {sp : SpT} (kp : PySem.W.keepIn K (.ref f) = true) (g : mg x = some (.ref f)) (b : Binds K fd ps []) (ok : FnOk P w K mg base (L2.CX P w) k f fd ps (SpD K sp)) : Cal P w K mg base k x ps sp := ⟨f, fd, ok, g, kp, b⟩
end
section
variable {X : Cx} {W : WX} {e : Expr} {es : List Expr} {t : AT} {k j : Nat} {ps : List Str} {sp : SpT} {x : Str} {p pos : Pos}
theorem de_calC (C : Cal X.prog X.w X.K X.mg X.base k x ps sp) (hr : Room j X.A) (hg : Gl X x) (tk : Takes X W) (ha : DA X W (e :: es) t) (hk : k ≤ j := by decide) (hdb : (x == ("__debug__" : Str)) = false := by decide)
    (he : starEach (e :: es) X.env = (false, eval e X.env) :: starEach es X.env := by rfl) (hpl : (backTo pos (starEach es X.env)).any (·.1) = false := by rfl) : DE X W (.Call (.Name x p) (e :: es) [] pos) (eCall sp t) := by
  obtain ⟨f, fd, F, g, kp, b⟩ := C.ex
  exact de_call F (hr.mono hk) hg g kp b tk ha hdb he hpl
theorem de_calN (C : Cal X.prog X.w X.K X.mg X.base k x ps sp) (hr : Room j X.A) (hg : Gl X x) (tk : Takes X W) (ha : DA X W (e :: es) t) (hk : k ≤ j := by decide) (hdb : (x == ("__debug__" : Str)) = false := by decide)
    (he : starEach (e :: es) X.env = (false, eval e X.env) :: starEach es X.env := by rfl) (hpl : (backTo pos (starEach es X.env)).any (·.1) = false := by rfl) : DE X W (.Call (.Name x p) (e :: es) [] pos) (eCallN sp t) := by
  obtain ⟨f, fd, F, g, kp, b⟩ := C.ex
  exact de_callN F (hr.mono hk) hg g kp b tk ha hdb he hpl
end
/-! ### the builtins' places -/
theorem bt_len : bootBuiltins "len" = some (.builtin "len") := by decide +kernel
theorem bt_min : bootBuiltins "min" = some (.builtin "min") := by decide +kernel
theorem bt_max : bootBuiltins "max" = some (.builtin "max") := by decide +kernel
theorem bt_sum : bootBuiltins "sum" = some (.builtin "sum") := by decide +kernel
theorem bt_all : bootBuiltins "all" = some (.builtin "all") := by decide +kernel
theorem bt_any : bootBuiltins "any" = some (.builtin "any") := by decide +kernel
theorem bt_sorted : bootBuiltins "sorted" = some (.builtin "sorted") := by decide +kernel
theorem bt_list : bootBuiltins "list" = some (.type "list") := by decide +kernel
theorem bt_tuple : bootBuiltins "tuple" = some (.type "tuple") := by decide +kernel
theorem bt_dict : bootBuiltins "dict" = some (.type "dict") := by decide +kernel
theorem bt_str : bootBuiltins "str" = some (.type "str") := by decide +kernel
end DL

set_option Elab.async false
set_option linter.all false
set_option maxRecDepth 100000
namespace DL
open PySem PySem.Spec PyProof.Rows L2

theorem repA_ints {K : PySem.W.Frag} {H : Hp} {M : Option Hp} : ∀ ns : List Int, RepA K H M (ns.map D.int) (ns.map V.int)
  | [] => rfl
  | n :: ns => ⟨.int n, ns.map V.int, rfl, rfl, repA_ints ns⟩
/-- a law: it tells True of each list of at most n ints -/
theorem walk_dl {l : PySem.W.OpenLaw} {n k : Nat} {q : Program} {loose : List Str} {XP : (Str → Option Value) → Heap → Prop} {YP : World → Heap → Prop} {d : DefRec} {x : Str} {sp : SpT} (hn : l.most = some n) (hn2 : n ≤ sizeLine) (hdf : d.params.defaults = []) (hr : Room k callerA)
    (hsp : ∀ (ns : List Int) (e : XQ) (q : D → Prop), ns.length ≤ n → q (.bl true) → sp [.lst (ns.map .int)] e q)
    (F : ∀ (w : World) (mg : Str → Option Value) (fa : Addr) (h : Heap), YP w h → h.Ns mainGlobals mg → mg d.name = some (.ref fa) → ∃ (K : PySem.W.Frag) (fd : FuncData), K.In h ∧ (∀ (s : Shared) (u : Value), BindsTo s fd ⟨[u], []⟩ [(x, u)]) ∧
      ∀ base : Heap, K.In base → base.Ns mainGlobals mg → FnOk l.prog w K mg base (L2.CX l.prog w) k fa fd [x] (SpD K sp)) : PySem.W.WalkO q loose XP YP l.row.toRowW d [] (fun f vs => PySem.call f vs) := by
  refine Att.attach_call hn hdf ?_
  intro w s0 s1 mg mb fa o pm cd doc a vs ns G Y ho hd hcd hmg hobj hints hlen hg
  obtain ⟨K, fd, KX, hb, hF⟩ := F w mg fa _ Y G.T.g hmg
  refine law_call KX G.T.g G.T.b G.T.builtins G.T.nolimit hg hobj hints (Nat.le_trans hlen hn2) hr hF hb (fun H hO hS => ?_) fun H e s' ⟨_, _, _, _, _, _, _, _, _, _, _, _, z⟩ => z
  refine ⟨[.lst (ns.map .int)], fun _ => False, fun d => d = .bl true, ⟨_, _, rfl, ⟨a, _, rfl, hS, repA_ints ns⟩, rfl⟩, hsp ns _ _ hlen rfl, fun v H' d s R e => ?_, fun _ _ _ _ _ _ z => z⟩
  subst e
  exact R
end DL

set_option Elab.async false
set_option linter.all false
set_option maxRecDepth 100000
/-! Sets of keys: made of a list or a tuple, measured, sorted. -/
namespace DL
open PySem PySem.Spec PyProof.Rows L2
section
variable {P : Program} {w : World} {C : Type} [DecidableEq C] [Inhabited C] (κ : KeyKind P w C)
/-- the key that a value stands for -/
noncomputable def kf (v : Value) : C := open Classical in if q : ∃ c, κ.is c v = true then Classical.choose q else default
theorem kf_eq {κ : KeyKind P w C} {c : C} {v : Value} (q : κ.is c v = true) : kf κ v = c := by
  have q1 : ∃ c, κ.is c v = true := ⟨c, q⟩
  unfold kf
  rw [dif_pos q1]
  exact κ.inj v _ _ (Classical.choose_spec q1) q
noncomputable abbrev kfs (l : List (Int × Value)) : List C := l.map fun e => kf κ e.2
/-- a set with these keys, in some order; it can be walked -/
def SetG (hp : Heap) (b : Addr) (ks : List C) : Prop :=
  ∃ ob tab v T, hp.get? b = some ob ∧ ob.ExactSet ∧ ob.data = .set tab v T ∧ ElemsOf κ tab.toList ∧ (kfs κ tab.toList).Perm ks ∧ ks.Nodup ∧
    tab.size < scanBound ∧ T.fits tab.size = true ∧ Ris T.place.toList ∧ (w.params.followText "set-order" = true ∨ T.led = true)
variable {κ}
theorem SetG.at {hp hp' : Heap} {b : Addr} {ks : List C} (G : SetG κ hp b ks) (k : ∀ ob, hp.get? b = some ob → hp'.get? b = some ob) : SetG κ hp' b ks := by
  obtain ⟨ob, tab, v, T, g, rest⟩ := G
  exact ⟨ob, tab, v, T, k ob g, rest⟩
theorem SetG.perm {hp : Heap} {b : Addr} {ks ks' : List C} (G : SetG κ hp b ks) (p : ks.Perm ks') : SetG κ hp b ks' := by
  obtain ⟨ob, tab, v, T, g1, g2, g3, g4, g5, g6, rest⟩ := G
  exact ⟨ob, tab, v, T, g1, g2, g3, g4, g5.trans p, p.nodup_iff.mp g6, rest⟩
theorem is_kf {l : List (Int × Value)} (el : ElemsOf κ l) {e : Int × Value} (he : e ∈ l) (c : C) : κ.is c e.2 = true ↔ kf κ e.2 = c := by
  obtain ⟨⟨c0, i0, _⟩, _⟩ := el e he
  constructor
  · exact fun q => kf_eq q
  · intro q
    rw [← q, kf_eq i0]
    exact i0
theorem mem_kfs {l : List (Int × Value)} (el : ElemsOf κ l) (c : C) : c ∈ kfs κ l ↔ ∃ e ∈ l, κ.is c e.2 = true := by
  rw [List.mem_map]
  constructor
  · rintro ⟨e, he, q⟩
    exact ⟨e, he, (is_kf el he c).mpr q⟩
  · rintro ⟨e, he, q⟩
    exact ⟨e, he, (is_kf el he c).mp q⟩
variable {A : Around} {E : Value → Shared → Prop} {s : Shared} {b : Addr} {ks : List C}
/-- the end of an addition: what is laid, and the table grown where it must be -/
theorem setG_tail {gw : Bool → Sem Unit} (hgw : ∀ (z : Bool) (s1 : Shared) (R : Unit → Shared → Prop), R () s1 → wpAny (model P w) A (gw z) R E s1)
    {ob : Obj} {tab tab1 : Array (Int × Value)} {v : Nat} {T T1 : SetTable} (hO : s.heap.get? b = some ob) (hX : ob.ExactSet) (hD : ob.data = .set tab v T)
    (el : ElemsOf κ tab1.toList) (pm : (kfs κ tab1.toList).Perm ks) (nd : ks.Nodup) (small : tab1.size < scanBound) (ft : T1.fits tab1.size = true) (ri : Ris T1.place.toList) (le : w.params.followText "set-order" = true ∨ T1.led = true)
    {wd : Bool} {R : Option Bool → Shared → Prop} (hR : ∀ hp', Heap.SameBut b s.heap hp' → SetG κ hp' b ks → R (some true) { s with heap := hp' }) :
    wpAny (model P w) A (do
        storeSet b tab1 T1
        if (!wd && T1.tooFull) = true then do
            gw (relayAll T1 tab1 (SetTable.grown tab1.size)).2.2
            storeSet b (relayAll T1 tab1 (SetTable.grown tab1.size)).1 (relayAll T1 tab1 (SetTable.grown tab1.size)).2.1
            pure (some true)
          else pure (some true)) R E s := by
  have at1 := store_at (es' := tab1) (t' := T1) hO hD
  have same1 := Heap.SameBut.update s.heap b (Obj.putSet tab1 T1)
  refine wpAny_bind (wpAny_storeSet_of hO hD ?_ (fits_of_scanBound small))
  by_cases c : (!wd && T1.tooFull) = true
  · rw [if_pos c]
    have rp := relayAll_perm T1 tab1 (SetTable.grown tab1.size)
    have rf := relayAll_fits T1 tab1 (SetTable.grown tab1.size)
    have rr := relayAll_ris T1 tab1 (SetTable.grown tab1.size)
    have rl := relayAll_led T1 tab1 (SetTable.grown tab1.size)
    obtain ⟨Z, eZ⟩ : ∃ Z, Z = relayAll T1 tab1 (SetTable.grown tab1.size) := ⟨_, rfl⟩
    rw [← eZ] at rp rf rr rl ⊢
    obtain ⟨tab2, T2, gave⟩ := Z
    dsimp only at rp rf rr rl ⊢
    have n2 : tab2.size = tab1.size := by
      have := rp.length_eq
      rwa [Array.length_toList, Array.length_toList] at this
    have small2 : tab2.size < scanBound := by omega
    refine wpAny_bind (hgw _ _ _ ?_)
    refine wpAny_bind (wpAny_storeSet_of at1 rfl ?_ (fits_of_scanBound small2))
    have at2 := store_at (es' := tab2) (t' := T2) at1 rfl
    refine wpAny_pure (hR _ (same1.trans (Heap.SameBut.update _ b _)) ⟨_, tab2, _, T2, at2, hX, rfl, el.perm rp, (rp.map _).trans pm, nd, small2, rf, rr, ?_⟩)
    rcases le with le | le
    · exact .inl le
    · exact .inr (rl.trans le)
  · rw [if_neg c]
    exact wpAny_pure (hR _ same1 ⟨_, tab1, _, T1, at1, hX, rfl, el, pm, nd, small, ft, ri, le⟩)
/-- a key is put into it -/
theorem setG_add {c : C} {x : Value} {R : Bool → Shared → Prop} (isx : κ.is c x = true) (sc : x.scannable = true) (G : SetG κ s.heap b ks) (room : ks.length + 1 < scanBound)
    (hR : ∀ hp', Heap.SameBut b s.heap hp' → SetG κ hp' b (if c ∈ ks then ks else c :: ks) → R (!decide (c ∈ ks)) { s with heap := hp' }) :
    wpAny (model P w) A (setAddHashed b x (κ.hash c)) R E s := by
  obtain ⟨ob, tab, v, T, hO, hX, hD, el, pm, nd, small, ft, ri, le⟩ := G
  have nk : tab.size = ks.length := by
    have := pm.length_eq
    rwa [List.length_map, Array.length_toList] at this
  unfold setAddHashed setAddHashedIn
  refine wpAny_holding (wpAny_bind (wpAny_setState_of hO hD ft ?_))
  dsimp only
  rw [byScan_of sc small el]
  simp only [↓reduceIte]
  unfold setAddByScan
  refine wpAny_bind (wpAny_bind (wpAny_rule (wpAny_bind (wpAny_setScan_of isx hO hD ft el ?_))))
  cases fi : List.findIdx? (fun e => κ.is c e.2) tab.toList with
  | some j =>
    dsimp only
    obtain ⟨jl, pj, _⟩ := List.findIdx?_eq_some_iff_getElem.mp fi
    have there : c ∈ ks := pm.mem_iff.mp ((mem_kfs el c).mpr ⟨_, List.getElem_mem jl, pj⟩)
    have z := hR s.heap (Heap.SameBut.refl b s.heap) (by
      rw [if_pos there]
      exact ⟨ob, tab, v, T, hO, hX, hD, el, pm, nd, small, ft, ri, le⟩)
    rw [decide_eq_true there] at z
    exact wpAny_pure (wpAny_pure z)
  | none =>
    dsimp only
    have away : c ∉ ks := fun z => by
      obtain ⟨e, he, q⟩ := (mem_kfs el c).mp (pm.mem_iff.mpr z)
      have := List.findIdx?_eq_none_iff.mp fi e he
      rw [q] at this
      cases this
    have gw : ∀ (z : Bool) {s1 : Shared} {R1 : Unit → Shared → Prop}, R1 () s1 → wpAny (model P w) A (match z with | true => rule "set.scan.the-table-gave-way" | false => pure ()) R1 E s1 := by
      intro z s1 R1 q
      cases z
      · exact wpAny_pure q
      · exact wpAny_rule q
    have lp := layNew_perm T tab (κ.hash c) x
    have lf := layNew_fits T tab (κ.hash c) x
    have lr := layNew_ris T tab (κ.hash c) x ri
    have ll := layNew_led T tab (κ.hash c) x
    obtain ⟨Z, eZ⟩ : ∃ Z, Z = layNew T tab (κ.hash c) x := ⟨_, rfl⟩
    rw [← eZ] at lp lf lr ll ⊢
    obtain ⟨tab1, T1, wd, gave⟩ := Z
    dsimp only at lp lf lr ll ⊢
    rw [Array.toList_push] at lp
    have el1 : ElemsOf κ tab1.toList := (el.push isx sc).perm lp
    have pm1 : (kfs κ tab1.toList).Perm (c :: ks) := by
      have q := (lp.trans (List.perm_append_singleton _ _)).map fun e => kf κ e.2
      rw [List.map_cons] at q
      have e1 : kf κ (κ.hash c, x).2 = c := kf_eq isx
      rw [e1] at q
      exact q.trans (pm.cons c)
    have n1 : tab1.size = ks.length + 1 := by
      have := lp.length_eq
      rw [List.length_append, Array.length_toList, Array.length_toList, List.length_singleton] at this
      omega
    have small1 : tab1.size < scanBound := by omega
    have le1 : w.params.followText "set-order" = true ∨ T1.led = true := by
      rcases le with le | le
      · exact .inl le
      · exact .inr (ll.trans le)
    have done : ∀ hp', Heap.SameBut b s.heap hp' → SetG κ hp' b (c :: ks) → R true { s with heap := hp' } := fun hp' sb q => by
      have z := hR hp' sb (by rw [if_neg away]; exact q)
      rw [decide_eq_false away] at z
      exact z
    have nd1 : (c :: ks).Nodup := List.nodup_cons.mpr ⟨away, nd⟩
    refine wpAny_bind (gw _ ?_)
    split
    · refine wpAny_bind ?_
      rw [hashByValue_scannable 8 sc]
      refine wpAny_pure (setG_tail (κ := κ) ?_ hO hX hD el1 pm1 nd1 small1 ?_ ?_ ?_ ?_)
      · intro z s1 R1 q
        cases z
        · exact wpAny_pure q
        · exact wpAny_rule q
      · first | (split <;> first | exact lf | exact SetTable.fits_plain_off lf) | exact lf
      · first | (split <;> exact lr) | exact lr
      · first | (split <;> exact le1) | exact le1
      · intro hp' sb q
        exact wpAny_pure (done hp' sb q)
    · refine wpAny_bind (wpAny_pure ?_)
      simp only [↓reduceIte]
      refine setG_tail (κ := κ) ?_ hO hX hD el1 pm1 nd1 small1 lf lr le1 ?_
      · intro z s1 R1 q
        cases z
        · exact wpAny_pure q
        · exact wpAny_rule q
      · intro hp' sb q
        exact wpAny_pure (done hp' sb q)
/-- the distinct ones, as a set takes them -/
def setL : List C → List C → List C
  | acc, [] => acc
  | acc, c :: r => setL (if c ∈ acc then acc else c :: acc) r
theorem setL_nd : ∀ (l acc : List C), acc.Nodup → (setL acc l).Nodup
  | [], acc, h => h
  | c :: r, acc, h => by
    refine setL_nd r _ ?_
    split
    · exact h
    · rename_i n
      exact List.nodup_cons.mpr ⟨n, h⟩
theorem setL_mem : ∀ (l acc : List C) (x : C), x ∈ setL acc l ↔ x ∈ acc ∨ x ∈ l
  | [], acc, x => by simp [setL]
  | c :: r, acc, x => by
    unfold setL
    rw [setL_mem r]
    split
    · rename_i h
      constructor
      · rintro (z | z)
        · exact .inl z
        · exact .inr (List.mem_cons_of_mem _ z)
      · rintro (z | z)
        · exact .inl z
        · rcases List.mem_cons.mp z with rfl | z
          · exact .inl h
          · exact .inr z
    · simp only [List.mem_cons]
      constructor
      · rintro ((z | z) | z)
        · exact .inr (.inl z)
        · exact .inl z
        · exact .inr (.inr z)
      · rintro (z | z | z)
        · exact .inl (.inr z)
        · exact .inl (.inl z)
        · exact .inr z
theorem setL_len : ∀ (l acc : List C), (setL acc l).length ≤ acc.length + l.length
  | [], acc => by simp [setL]
  | c :: r, acc => by
    unfold setL
    have := setL_len r (if c ∈ acc then acc else c :: acc)
    rw [List.length_cons]
    split at this
    · rename_i q
      rw [if_pos q]
      omega
    · rename_i q
      rw [if_neg q]
      rw [List.length_cons] at this
      omega
theorem setL_snoc : ∀ (l acc : List C) (c : C), setL acc (l ++ [c]) = if c ∈ setL acc l then setL acc l else c :: setL acc l
  | [], acc, c => rfl
  | a :: r, acc, c => setL_snoc r _ c
/-- the loop of an update -/
theorem setG_loop {I : Addr} {fp wr : List Addr} {G : Array GenState → Array GenState → Prop} {n : Nat} {Pv : Nat → Value → Prop} {St : Nat → Shared → Prop} {R : Result → Shared → Prop}
    (W : WalksS P w A.in1 I fp wr G n Pv St) (S : Addr) (out : S ∉ fp) (cs : List C) (hn : n = cs.length) (small : cs.length + 1 < scanBound) (hv : ∀ i v, Pv i v → ∃ c, cs[i]? = some c ∧ κ.is c v = true ∧ v.scannable = true) :
    ∀ (m i : Nat) (s : Shared), n - i = m → i ≤ n → St i s → SetG κ s.heap S (setL [] (cs.take i)) → (∀ s', Moved (S :: wr) G s s' → SetG κ s'.heap S (setL [] cs) → R (.ok (.ret .none)) s') →
      codeAny (model P w) A (.builtin "set.update.loop" ⟨[.ref S, .ref I], []⟩) R s := by
  have nw : S ∉ wr := fun z => out (W.sub _ z)
  have up : ∀ a ∈ wr, a ∈ S :: wr := fun a z => List.mem_cons_of_mem _ z
  intro m
  induction m with
  | zero =>
    intro i s hm hi st hS hR
    have e : i = n := by omega
    subst e
    refine codeAny_builtin F.entry_set_update_loop ?_
    rw [Around.under_plainId F.plain_set_update_loop _]
    show wpAny _ A.in1 (pyNext (.ref I) >>= _) _ _ s
    refine wpAny_bind (W.done s _ _ st fun s1 mv => ?_)
    show wpAny _ A.in1 (ret Value.none) _ _ s1
    rw [List.take_of_length_le (by omega)] at hS
    exact wpAny_pure (hR s1 (mv.mono up) (hS.at fun ob q => mv.heap S ob nw q))
  | succ m ih =>
    intro i s hm hi st hS hR
    have lt : i < n := by omega
    refine codeAny_builtin F.entry_set_update_loop ?_
    rw [Around.under_plainId F.plain_set_update_loop _]
    show wpAny _ A.in1 (pyNext (.ref I) >>= _) _ _ s
    refine wpAny_bind (W.item i s _ _ lt st fun v s1 pv st1 mv => ?_)
    obtain ⟨c, hc, isv, scv⟩ := hv i v pv
    have hS1 : SetG κ s1.heap S (setL [] (cs.take i)) := hS.at fun ob q => mv.heap S ob nw q
    show wpAny _ A.in1 (holding [v] (setAdd S v) >>= _) _ _ s1
    refine wpAny_bind (wpAny_holding ?_)
    unfold setAdd
    refine wpAny_holding (wpAny_bind (κ.pyHash (k := c) isv ?_))
    have ln := setL_len (cs.take i) ([] : List C)
    rw [List.length_take, List.length_nil] at ln
    refine setG_add (s := { s1 with toks := s1.toks + 1 }) isv scv hS1 (by omega) fun hp' sb hS2 => ?_
    rw [← setL_snoc] at hS2
    have tk : cs.take (i + 1) = cs.take i ++ [c] := by rw [List.take_add_one, hc] <;> rfl
    rw [← tk] at hS2
    refine wpAny_pure ⟨plainId_quiet F.plain_set_update_loop _, ih (i + 1) _ (by omega) lt (W.frame _ s1 _ _ st1 (Nat.le_succ _) fun a ha o q => ?_) hS2 fun s2 mv2 hS3 => ?_⟩
    · rw [sb.2 a (fun z : a = S => out (z ▸ ha))]
      exact q
    · refine hR s2 (Moved.trans W.gtrans ((mv.mono up).then_heap (Nat.le_succ _) fun a o ha q => ?_) mv2) hS3
      rw [sb.2 a (fun z : a = S => ha (z ▸ List.mem_cons_self))]
      exact q
/-- the new set, before it is filled -/
abbrev set0 (w : World) : Obj := { cls := .type "set", dict := none, data := .set #[] 0 (.fresh 0 0 (!w.params.followText "set-order")) }
theorem setG_none {hp : Heap} {p : Addr} (q : hp.get? p = some (set0 w)) : SetG κ hp p [] :=
  ⟨_, #[], 0, _, q, ⟨rfl, rfl, rfl⟩, rfl, (fun e he => nomatch he), .refl _, .nil, by decide, by rfl, .nil, by
    show _ ∨ (!w.params.followText "set-order") = true
    cases w.params.followText "set-order"
    · exact .inr rfl
    · exact .inl rfl⟩

set_option maxRecDepth 100000 in
set_option maxHeartbeats 3200000 in
theorem setG_of_list {l : Addr} {items : Array Value} (cs : List C) {Q : Value → Shared → Prop} (hh : A.handled = none) (hL : s.heap.IsList l items) (len : items.size = cs.length) (each : ∀ (i : Nat) (v : Value), items[i]? = some v → ∃ c, cs[i]? = some c ∧ κ.is c v = true ∧ v.scannable = true) (small : cs.length + 1 < scanBound)
    (hQ : ∀ (hp' : Heap) (tk : Nat), SetG κ hp' s.heap.objs.size (setL [] cs) → (∀ a o, s.heap.get? a = some o → hp'.get? a = some o) → Q (.ref s.heap.objs.size) { s with heap := hp', toks := tk }) :
    wpAny (model P w) A (call (.type "set") [.ref l]) Q E s := by
  obtain ⟨c0, tl, hmro⟩ := F.called_set.mro
  have made := F.called_set.made
  have subs := F.called_set.sub
  have no1 := F.called_set.notType
  have no2 := F.called_set.canCreate
  have tc := F.typeCall_set_1 (.ref l)
  refine wpAny_call (codeAny_of_tree ?_)
  show wpAny _ _ (callAny (.type "set") _) _ _ _
  refine wpAny_pure ⟨Code.quiet_builtin _ (by decide +kernel), codeAny_builtin F.entry_type_call ?_⟩
  rw [Around.under_plain (weight_type_call_type "set" [.ref l] []) rfl]
  repeat (any_goals (first | assumption | wp_step))
  refine codeAny_mono (code_set_led1 (.ref l) (E := E) (Q₁ := fun v s1 => v = .ref s.heap.objs.size ∧ s1 = { s with heap := s.heap.push (set0 w) }) ⟨rfl, rfl⟩) fun r s1 hr => ?_
  cases r with
  | error e => exact hr
  | ok fl =>
    cases fl with
    | ret v0 =>
      obtain ⟨rfl, rfl⟩ := hr
      have newS : (s.heap.push (set0 w)).get? s.heap.objs.size = some (set0 w) := Heap.get?_push_size _ rfl
      have isS : Shared.TypeIs { s with heap := s.heap.push (set0 w) } (.ref s.heap.objs.size) "set" := ⟨_, newS, rfl⟩
      have look := F.called_set.init.lookup
      have bind := F.called_set.init.bind (.ref s.heap.objs.size)
      repeat (any_goals (first | assumption | wp_step))
      refine codeAny_mono (codeAny_call_builtin (R := wants (fun r s2 => r = .none ∧ ∃ hp' tk, s2 = { s with heap := hp', toks := tk } ∧ SetG κ hp' s.heap.objs.size (setL [] cs) ∧
          ∀ a o, s.heap.get? a = some o → hp'.get? a = some o) E) F.called_set.init.plain F.entry_set_init (check_set_init_1 isS ?_)) fun r2 s2 hr2 => ?_
      · obtain ⟨oL, hoL, hcl, nl, hdl⟩ := hL
        obtain ⟨oc, od, odt, osl⟩ := oL
        simp only at hcl hdl
        subst hcl hdl
        have ls : l < s.heap.objs.size := Heap.lt_size hoL
        have stays : (s.heap.push (set0 w)).get? l = some { cls := .type "list", dict := od, data := .seq items nl, slots := osl } := Heap.get?_push_of_some _ hoL
        have sb1 := F.sub_list_set
        have sb2 := F.sub_list_frozenset
        have nd : (Value.type "list" == Value.type "dict") = false := by decide
        have isL : (s.heap.push (set0 w)).IsList l items := ⟨_, stays, rfl, nl, rfl⟩
        unfold Builtin.«set.__init__» noKeywords Builtin.Frozenset.updateFrom
        generalize hPI : pyIter = PI
        wp_walk
        subst hPI
        refine wpAny_pyIter_list isL (wpAny_bind (wpAny_runValue ?_))
        have calm3 : A.in1.in1.in1.handled = none := by simp [hh]
        have sz : (s.heap.push (set0 w)).objs.size = s.heap.objs.size + 1 := Heap.size_push ..
        have apart : l ≠ (s.heap.push (set0 w)).objs.size := by
          rw [sz]
          exact Nat.ne_of_lt (Nat.lt_succ_of_lt ls)
        have outS : s.heap.objs.size ∉ [(s.heap.push (set0 w)).objs.size, l] := fun z => by
          rcases List.mem_cons.mp z with z | z
          · rw [sz] at z
            exact Nat.ne_of_lt (Nat.lt_succ_self _) z
          · exact Nat.ne_of_gt ls (List.mem_singleton.mp z)
        refine setG_loop (κ := κ) ((Walks.list calm3 _ l apart items).toS) s.heap.objs.size outS cs len small each (items.size - 0) 0 _ (by omega) (Nat.zero_le _) ⟨⟨_, Heap.get?_push_size _ rfl, rfl, rfl⟩, isL.push _⟩ ?first ?last
        case first => exact setG_none (Heap.get?_push_of_some _ newS)
        case last =>
          intro s' mv hS
          obtain ⟨hp', gg, dd, tt, oo⟩ := s'
          have e1 : gg = s.gens := mv.gens
          have e2 : dd = s.drawn := mv.drawn
          have e3 : oo = s.os := mv.os
          subst e1 e2 e3
          show wpAny _ _ _ _ _ _
          refine wpAny_pure ?_
          show wpAny _ _ (ret Value.none) _ _ _
          refine wpAny_pure ⟨rfl, hp', tt, rfl, hS, fun a o q => ?_⟩
          have la : a < s.heap.objs.size := Heap.lt_size q
          refine mv.heap a o (fun z => ?_) (Heap.get?_push_of_some _ (Heap.get?_push_of_some _ q))
          rcases List.mem_cons.mp z with z | z
          · exact Nat.ne_of_lt la z
          · have z := List.mem_singleton.mp z
            rw [sz] at z
            exact Nat.ne_of_lt (Nat.lt_succ_of_lt la) z
      · cases r2 with
        | error e => exact hr2
        | ok fl2 =>
          cases fl2 with
          | ret r =>
            obtain ⟨rfl, hp', tk, rfl, hS, keep⟩ := hr2
            repeat (any_goals (first | assumption | wp_step))
            exact hQ _ _ hS keep
          | _ => exact hr2.elim
    | _ => exact hr.elim

set_option maxRecDepth 100000 in
set_option maxHeartbeats 3200000 in
theorem setG_of_tuple {l : Addr} {items : Array Value} (cs : List C) {Q : Value → Shared → Prop} (hh : A.handled = none) (hL : s.heap.IsTuple l items) (len : items.size = cs.length) (each : ∀ (i : Nat) (v : Value), items[i]? = some v → ∃ c, cs[i]? = some c ∧ κ.is c v = true ∧ v.scannable = true) (small : cs.length + 1 < scanBound)
    (hQ : ∀ (hp' : Heap) (tk : Nat), SetG κ hp' s.heap.objs.size (setL [] cs) → (∀ a o, s.heap.get? a = some o → hp'.get? a = some o) → Q (.ref s.heap.objs.size) { s with heap := hp', toks := tk }) :
    wpAny (model P w) A (call (.type "set") [.ref l]) Q E s := by
  obtain ⟨c0, tl, hmro⟩ := F.called_set.mro
  have made := F.called_set.made
  have subs := F.called_set.sub
  have no1 := F.called_set.notType
  have no2 := F.called_set.canCreate
  have tc := F.typeCall_set_1 (.ref l)
  refine wpAny_call (codeAny_of_tree ?_)
  show wpAny _ _ (callAny (.type "set") _) _ _ _
  refine wpAny_pure ⟨Code.quiet_builtin _ (by decide +kernel), codeAny_builtin F.entry_type_call ?_⟩
  rw [Around.under_plain (weight_type_call_type "set" [.ref l] []) rfl]
  repeat (any_goals (first | assumption | wp_step))
  refine codeAny_mono (code_set_led1 (.ref l) (E := E) (Q₁ := fun v s1 => v = .ref s.heap.objs.size ∧ s1 = { s with heap := s.heap.push (set0 w) }) ⟨rfl, rfl⟩) fun r s1 hr => ?_
  cases r with
  | error e => exact hr
  | ok fl =>
    cases fl with
    | ret v0 =>
      obtain ⟨rfl, rfl⟩ := hr
      have newS : (s.heap.push (set0 w)).get? s.heap.objs.size = some (set0 w) := Heap.get?_push_size _ rfl
      have isS : Shared.TypeIs { s with heap := s.heap.push (set0 w) } (.ref s.heap.objs.size) "set" := ⟨_, newS, rfl⟩
      have look := F.called_set.init.lookup
      have bind := F.called_set.init.bind (.ref s.heap.objs.size)
      repeat (any_goals (first | assumption | wp_step))
      refine codeAny_mono (codeAny_call_builtin (R := wants (fun r s2 => r = .none ∧ ∃ hp' tk, s2 = { s with heap := hp', toks := tk } ∧ SetG κ hp' s.heap.objs.size (setL [] cs) ∧
          ∀ a o, s.heap.get? a = some o → hp'.get? a = some o) E) F.called_set.init.plain F.entry_set_init (check_set_init_1 isS ?_)) fun r2 s2 hr2 => ?_
      · obtain ⟨oL, hoL, hcl, nl, hdl⟩ := hL
        obtain ⟨oc, od, odt, osl⟩ := oL
        simp only at hcl hdl
        subst hcl hdl
        have ls : l < s.heap.objs.size := Heap.lt_size hoL
        have stays : (s.heap.push (set0 w)).get? l = some { cls := .type "tuple", dict := od, data := .seq items nl, slots := osl } := Heap.get?_push_of_some _ hoL
        have sb1 := F.sub_tuple_set
        have sb2 := F.sub_tuple_frozenset
        have nd : (Value.type "tuple" == Value.type "dict") = false := by decide
        have isL : (s.heap.push (set0 w)).IsTuple l items := ⟨_, stays, rfl, nl, rfl⟩
        unfold Builtin.«set.__init__» noKeywords Builtin.Frozenset.updateFrom
        generalize hPI : pyIter = PI
        wp_walk
        subst hPI
        refine wpAny_pyIter_tuple isL (wpAny_bind (wpAny_runValue ?_))
        have calm3 : A.in1.in1.in1.handled = none := by simp [hh]
        have sz : (s.heap.push (set0 w)).objs.size = s.heap.objs.size + 1 := Heap.size_push ..
        have apart : l ≠ (s.heap.push (set0 w)).objs.size := by
          rw [sz]
          exact Nat.ne_of_lt (Nat.lt_succ_of_lt ls)
        have outS : s.heap.objs.size ∉ [(s.heap.push (set0 w)).objs.size, l] := fun z => by
          rcases List.mem_cons.mp z with z | z
          · rw [sz] at z
            exact Nat.ne_of_lt (Nat.lt_succ_self _) z
          · exact Nat.ne_of_gt ls (List.mem_singleton.mp z)
        refine setG_loop (κ := κ) ((Walks.tuple calm3 _ l apart items).toS) s.heap.objs.size outS cs len small each (items.size - 0) 0 _ (by omega) (Nat.zero_le _) ⟨⟨_, Heap.get?_push_size _ rfl, rfl, rfl⟩, isL.push _⟩ ?first ?last
        case first => exact setG_none (Heap.get?_push_of_some _ newS)
        case last =>
          intro s' mv hS
          obtain ⟨hp', gg, dd, tt, oo⟩ := s'
          have e1 : gg = s.gens := mv.gens
          have e2 : dd = s.drawn := mv.drawn
          have e3 : oo = s.os := mv.os
          subst e1 e2 e3
          show wpAny _ _ _ _ _ _
          refine wpAny_pure ?_
          show wpAny _ _ (ret Value.none) _ _ _
          refine wpAny_pure ⟨rfl, hp', tt, rfl, hS, fun a o q => ?_⟩
          have la : a < s.heap.objs.size := Heap.lt_size q
          refine mv.heap a o (fun z => ?_) (Heap.get?_push_of_some _ (Heap.get?_push_of_some _ q))
          rcases List.mem_cons.mp z with z | z
          · exact Nat.ne_of_lt la z
          · have z := List.mem_singleton.mp z
            rw [sz] at z
            exact Nat.ne_of_lt (Nat.lt_succ_of_lt la) z
      · cases r2 with
        | error e => exact hr2
        | ok fl2 =>
          cases fl2 with
          | ret r =>
            obtain ⟨rfl, hp', tk, rfl, hS, keep⟩ := hr2
            repeat (any_goals (first | assumption | wp_step))
            exact hQ _ _ hS keep
          | _ => exact hr2.elim
    | _ => exact hr.elim

end
end DL

set_option Elab.async false
set_option linter.all false
set_option maxRecDepth 100000
/-! len(set(..)), sorted(set(..)), over data -/
namespace DL
open PySem PySem.Spec PyProof.Rows L2
instance : Inhabited Key := ⟨.inl 0⟩
def skK : Key → SK
  | .inl i => .inl i
  | .inr z => .inr z.cps.toList
theorem flat_is {c : Key} {u : Value} (h : keyIs c u = true) : FlatU u (skK c) := by
  rcases keyIs_shape h with ⟨i, t, rfl, rfl⟩ | ⟨z, t, rfl, rfl⟩
  · exact .int i t
  · exact .str z t
theorem is_rel {c : Key} {u : Value} (h : RelV (kV c) u) : keyIs c u = true := by
  cases c with
  | inl i =>
    obtain ⟨t, rfl⟩ := h
    exact keyIs_int i t
  | inr z =>
    obtain ⟨t, rfl⟩ := h
    exact keyIs_str z t
theorem rel_is {c : Key} {u : Value} (h : keyIs c u = true) : RelV (kV c) u := by
  rcases keyIs_shape h with ⟨i, t, rfl, rfl⟩ | ⟨z, t, rfl, rfl⟩
  · exact ⟨t, rfl⟩
  · exact ⟨t, rfl⟩
theorem is_scan {c : Key} {u : Value} (h : keyIs c u = true) : u.scannable = true := by
  rcases keyIs_shape h with ⟨i, t, rfl, rfl⟩ | ⟨z, t, rfl, rfl⟩ <;> rfl
theorem vals_keys {f : Value → Key} : ∀ {us : List Value}, (∀ u ∈ us, keyIs (f u) u = true) → Vals ((us.map f).map kV) us
  | [], _ => .nil
  | u :: us, h => .cons (rel_is (h u (by simp))) (vals_keys fun x hx => h x (List.mem_cons_of_mem _ hx))
theorem keys_vals : ∀ {cs : List Key} {us : List Value}, Vals (cs.map kV) us → us.length = cs.length ∧ ∀ (i : Nat) (u : Value), us[i]? = some u → ∃ c, cs[i]? = some c ∧ keyIs c u = true ∧ u.scannable = true
  | [], _, .nil => ⟨rfl, fun i u h => by simp at h⟩
  | c :: cs, _, .cons r t => by
    obtain ⟨h1, h2⟩ := keys_vals t
    refine ⟨by rw [List.length_cons, List.length_cons, h1], fun i u h => ?_⟩
    cases i with
    | zero =>
      cases h
      exact ⟨c, rfl, is_rel r, is_scan (is_rel r)⟩
    | succ i => exact h2 i u h
section
variable {P : Program} {w : World} {A : Around} {E : Value → Shared → Prop} {s : Shared} {b : Addr} {ks : List Key}
/-- sorted(a set) of one kind of keys -/
theorem sorted_setG {k0 : Bool} {Q : Value → Shared → Prop} (G : SetG (mixKind P w) s.heap b ks) (hh : A.handled = none) (one : ∀ c ∈ ks, kdS (skK c) = k0)
    (hQ : ∀ (s' : Shared) (p : Addr) (out : Array Value) (n : Nat) (ys : List Key), (∀ a o, s.heap.get? a = some o → s'.heap.get? a = some o) → s'.gens = s.gens → s'.os = s.os → s.heap.objs.size ≤ p →
      s'.heap.get? p = some (seqObj "list" out n) → Vals (ys.map kV) out.toList → ys.Perm ks → ys.Pairwise (fun x y => lexS [skK y] [skK x] = false) → Q (.ref p) s') :
    wpAny (model P w) A (call (.builtin "sorted") [.ref b]) Q E s := by
  obtain ⟨ob, tab, v, T, hO, hX, hD, el, pm, nd, small, ft, ri, le⟩ := G
  refine Calls.call_function_entry kind_sorted plain_sorted entry_sorted (args_sorted1 _) ?_
  unfold Builtin.«sorted»
  refine wpAny_bind (m := checkCount "sorted" 1 1 _) (wpAny_pure (wpAny_bind (collect_set (A := A.in1) hh ⟨ob, hO, hX.1, hD⟩ ft small ri le fun s1 vs keep more gens oss pv => ?_)))
  have nv : vs.length ≤ sizeLine := by
    have e1 := pv.length_eq
    rw [List.length_map] at e1
    rw [e1]
    exact fits_of_scanBound small
  have isv : ∀ u ∈ vs, ∃ c ∈ ks, keyIs c u = true ∧ kf (mixKind P w) u = c := fun u hu => by
    obtain ⟨e, he, rfl⟩ := List.mem_map.mp (pv.mem_iff.mp hu)
    obtain ⟨⟨c, hc, _⟩, _⟩ := el e he
    exact ⟨c, pm.mem_iff.mp (List.mem_map.mpr ⟨e, he, kf_eq hc⟩), hc, kf_eq hc⟩
  have pk : (vs.map (kf (mixKind P w))).Perm ks := by
    have q := pv.map (kf (mixKind P w))
    rw [List.map_map] at q
    exact q.trans pm
  have hp : ∀ u ∈ vs, ∃ k, FlatU u k ∧ kdS k = k0 := fun u hu => by
    obtain ⟨c, hc, ic, _⟩ := isv u hu
    exact ⟨skK c, flat_is ic, one c hc⟩
  refine wpAny_bind (wpAny_newList ?_ nv)
  have atL : (s1.heap.push (seqObj "list" vs.toArray 0)).get? s1.heap.objs.size = some (seqObj "list" vs.toArray 0) := Heap.get?_push_size _ rfl
  refine wpAny_bind (wpAny_holding (wpAny_call_entry slot_list_sort ⟨_, atL, rfl⟩ entry_list_sort (SrtO.list_sort_ord (swo_lexS fun u => [skU u]) atL nv (fun h2 => flat_one hp h2) fun out so st => ⟨_, rfl, ?_⟩) (args_list_sort _)))
  obtain ⟨n, hn⟩ := sortedHeap_at (vs := vs) (out := out.toArray) atL
  have po : out.Perm vs := st.perm
  have key : ∀ u ∈ out, keyIs (kf (mixKind P w) u) u = true ∧ skU u = skK (kf (mixKind P w) u) := fun u hu => by
    obtain ⟨c, hc, ic, ec⟩ := isv u (po.mem_iff.mp hu)
    rw [ec]
    exact ⟨ic, (flat_is ic).key⟩
  refine wpAny_pure ⟨_, rfl, hQ _ s1.heap.objs.size out.toArray n (out.map (kf (mixKind P w))) (fun a o q => ?_) gens oss more hn ?_ ((po.map _).trans pk) ?_⟩
  · have q1 := keep a o q
    have lt := Heap.lt_size q1
    show (sortedHeap (s1.heap.push (seqObj "list" vs.toArray 0)) s1.heap.objs.size vs out.toArray).get? a = some o
    rw [sortedHeap_old (Nat.ne_of_lt lt) (by rw [size_push']; exact Nat.lt_succ_of_lt lt)]
    exact Heap.get?_push_of_some _ q1
  · exact vals_keys fun u hu => (key u hu).1
  · refine List.pairwise_map.mpr (so.imp_of_mem fun {x y} hx hy q => ?_)
    rw [← (key x hx).2, ← (key y hy).2]
    exact q
end
/-- a set of keys, as a thing of its own -/
def SetGO (P : Program) (w : World) (a : Addr) (ks : List Key) : HO := .ext fun h => SetG (mixKind P w) h a ks
section
variable {X : Cx}
theorem setGO_new {P : Program} {w : World} {H : Hp} {h : Heap} {a : Addr} {ks : List Key} (G : SetG (mixKind P w) h a ks) : ObjOk P w H h a (SetGO P w a ks) := by
  have ⟨ob, _, _, _, g, _⟩ := G
  exact ⟨G, ⟨ob, g⟩, fun h1 h2 p k => SetG.at p k⟩
theorem setGO_get {pins : List (Addr × Obj)} {σ : St} {H : Hp} {s : Shared} {a : Addr} {ks : List Key} (I : Inv X pins σ H s) (ha : H a = some (SetGO X.prog X.w a ks)) : SetG (mixKind X.prog X.w) s.heap a ks := (I.hok a _ ha).1
/-- set(xs) of a list or a tuple of keys -/
def rSetG (X : Cx) : List V → Hp → VK → Prop := fun vs H Q => ∃ (a : Addr) (cs : List Key), vs = [.ref a] ∧ (SqL X.K H a (cs.map kV) ∨ SqT X.K H a (cs.map kV)) ∧ cs.length ≤ 4000 ∧ ∀ p, H p = none → Q (.ref p) (upd H p (SetGO X.prog X.w p (setL [] cs)))
theorem cr_setG (hc : X.calm = true) : CallR X (.type "set") (rSetG X) := by
  rintro pins s σ H vs us Q I r ⟨a, cs, rfl, hq, hl, q⟩
  rw [Vals.ref1 r]
  have small : cs.length + 1 < scanBound := by unfold scanBound; omega
  have fin : ∀ (hp' : Heap) (tk : Nat), SetG (mixKind X.prog X.w) hp' s.heap.objs.size (setL [] cs) → (∀ a o, s.heap.get? a = some o → hp'.get? a = some o) → EP X pins σ Q (.ref s.heap.objs.size) { s with heap := hp', toks := tk } := fun hp' tk G keep =>
    ⟨.ref _, upd H s.heap.objs.size (SetGO X.prog X.w s.heap.objs.size (setL [] cs)), I.laid (t' := tk) keep (Nat.le_refl _) (setGO_new G), rfl, q _ (I.hok.fresh (Nat.le_refl _))⟩
  rcases hq with hq | hq
  · obtain ⟨its, rv, pl, hz⟩ := I.list hq
    obtain ⟨h1, h2⟩ := keys_vals rv
    exact setG_of_list (κ := mixKind X.prog X.w) cs (I.ok.hd hc) pl.isList (by rw [List.size_toArray]; exact h1) (fun i v e => h2 i v (by simpa using e)) small fin
  · obtain ⟨its, rv, pl, hz⟩ := I.tuple hq
    obtain ⟨h1, h2⟩ := keys_vals rv
    exact setG_of_tuple (κ := mixKind X.prog X.w) cs (I.ok.hd hc) pl (by rw [List.size_toArray]; exact h1) (fun i v e => h2 i v (by simpa using e)) small fin
/-- len(a set) -/
def rLenG (X : Cx) : List V → Hp → VK → Prop := fun vs H Q => ∃ (a : Addr) (ks : List Key), vs = [.ref a] ∧ H a = some (SetGO X.prog X.w a ks) ∧ Q (.int ks.length) H
theorem cr_lenG : CallR X (.builtin "len") (rLenG X) := by
  rintro pins s σ H vs us Q I r ⟨a, ks, rfl, ha, q⟩
  rw [Vals.ref1 r]
  obtain ⟨ob, tab, v, T, hO, hX, hD, el, pm, nd, small, ft, ri, le⟩ := setGO_get I ha
  have e : tab.size = ks.length := by
    have := pm.length_eq
    rwa [List.length_map, Array.length_toList] at this
  refine call_len_set hO hX hD ft (by unfold scanBound at small; omega) ⟨.int ks.length, H, I.tok _, ⟨_, by rw [e]⟩, q⟩
/-- sorted(a set) -/
def rSortG (X : Cx) : List V → Hp → VK → Prop := fun vs H Q => ∃ (a : Addr) (ks : List Key) (k0 : Bool), vs = [.ref a] ∧ H a = some (SetGO X.prog X.w a ks) ∧ ks.length ≤ 4000 ∧ (∀ c ∈ ks, kdS (skK c) = k0) ∧
  ∀ (ys : List Key) (p : Addr), ys.Perm ks → ys.Pairwise (fun x y => lexS [skK y] [skK x] = false) → H p = none → Q (.ref p) (upd H p (.lst (ys.map kV)))
theorem cr_sortG (hc : X.calm = true) : CallR X (.builtin "sorted") (rSortG X) := by
  rintro pins s σ H vs us Q I r ⟨a, ks, k0, rfl, ha, hl, one, q⟩
  rw [Vals.ref1 r]
  refine sorted_setG (setGO_get I ha) (I.ok.hd hc) one fun s' p out n ys keep g o hp hg hv pm so => ?_
  have len : (ys.map kV).length ≤ sizeLine := by
    rw [List.length_map, pm.length_eq, sizeLine_eq]
    omega
  have free : H p = none := I.hok.fresh hp
  have J : Inv X pins σ (upd H p (.lst (ys.map kV))) { s with heap := s'.heap, gens := s'.gens, drawn := s'.drawn, toks := s'.toks } :=
    I.call (ch := []) (Un.laid keep hp free) (I.hok.laid keep hp ⟨len, out.toList, n, hv, by rw [Array.toArray_toList]; exact hg⟩) (by rw [g]; exact I.bare) fun _ z => nomatch z
  have same : s' = { s with heap := s'.heap, gens := s'.gens, drawn := s'.drawn, toks := s'.toks } := by
    cases s'
    cases s
    cases o
    rfl
  rw [same]
  exact ⟨.ref p, _, J, rfl, q ys p pm so free⟩
end
/-! ### over data -/
def keysD : List D → Option (List Key)
  | [] => some []
  | d :: ds => match keyD d, keysD ds with
    | some c, some cs => some (c :: cs)
    | _, _ => none
theorem keysD_rep {K : PySem.W.Frag} {H : Hp} {M : Option Hp} : ∀ {ds : List D} {vs : List V} {cs : List Key}, keysD ds = some cs → RepA K H M ds vs → vs = cs.map kV
  | [], vs, cs, e, h => by
    cases e
    exact h
  | d :: ds, vs, cs, e, h => by
    obtain ⟨v, r, rfl, h1, h2⟩ := h
    unfold keysD at e
    cases e1 : keyD d with
    | none => rw [e1] at e; cases e
    | some c =>
      cases e2 : keysD ds with
      | none => rw [e1, e2] at e; cases e
      | some cs' =>
        rw [e1, e2] at e
        cases e
        rw [keyD_rep e1 h1, keysD_rep e2 h2] <;> rfl
theorem rep_keys {K : PySem.W.Frag} {H : Hp} {M : Option Hp} : ∀ cs : List Key, RepA K H M (cs.map keyToD) (cs.map kV)
  | [] => rfl
  | c :: cs => ⟨kV c, _, rfl, keyToD_rep c, rep_keys cs⟩
def seqD : D → List D → Prop
  | .lst ds, es => ds = es
  | .tup ds, es => ds = es
  | _, _ => False
theorem seqD_rep {K : PySem.W.Frag} {H Z : Hp} {d : D} {es : List D} {v : V} (h : seqD d es) (r : BRep K H Z d v) (sm : Same Z H) : ∃ a vs, v = .ref a ∧ (SqL K H a vs ∨ SqT K H a vs) ∧ RepA K Z none es vs := by
  cases d with
  | lst ds =>
    obtain ⟨a, vs, e, q, rr⟩ := r
    cases h
    exact ⟨a, vs, e, .inl q, rr⟩
  | tup ds =>
    obtain ⟨a, vs, e, q, rr⟩ := r
    cases h
    exact ⟨a, vs, e, .inr ((Same.tp sm q).sq), rr⟩
  | _ => exact h.elim
section
variable {X : Cx} {W : WX} {a : Expr} {ta : ET} {p1 p2 p3 p4 : Pos}
/-- len(set(a)) -/
def eLenSet (ta : ET) : ET := fun e δ q => ta e δ fun _ x => ∃ ds cs, seqD x ds ∧ keysD ds = some cs ∧ cs.length ≤ 4000 ∧ q .fz (.int (setL [] cs).length)
theorem de_lenSet (hc : X.calm = true) (hg : Gl X "len") (hm : X.mg "len" = none) (hg2 : Gl X "set") (hm2 : X.mg "set" = none) (ha : DE X W a ta)
    (he : starEach [a] X.env = (false, eval a X.env) :: starEach [] X.env := by rfl) : DE X W (.Call (.Name "len" p1) [.Call (.Name "set" p2) [a] [] p3] [] p4) (eLenSet ta) :=
  PE.imp (pe_callB cr_lenG hg hm boot_len (pa_cons (pe_callTy (cr_setG hc) hg2 hm2 boot_set (pa_cons ha pa_nil he) (by decide) (by decide) he) pa_nil)) fun σ H Q => by
    rintro ⟨B, δ, e, q, r0, h, ok, bad⟩
    refine ⟨B, δ, e, _, r0, h, fun v H1 g d s1 R ⟨ds, cs, hs, hk, hl, hq⟩ => ?_, bad⟩
    obtain ⟨p, vs, rfl, hv, rr⟩ := seqD_rep hs (R.toB r0) (cut_le _ _)
    have ev := keysD_rep hk rr
    subst ev
    refine ⟨p, cs, rfl, hv, hl, fun l hn => ?_⟩
    exact ⟨l, _, rfl, upd_same .., ok _ _ .fz (.int _) (s1.trans (same_upd' hn)) rfl hq⟩
/-- sorted(set(a)), keys of one kind -/
def eSortSet (ta : ET) : ET := fun e δ q => ta e δ fun _ x => ∃ ds cs k0, seqD x ds ∧ keysD ds = some cs ∧ cs.length ≤ 4000 ∧ (∀ c ∈ cs, kdS (skK c) = k0) ∧
  ∀ ys : List Key, ys.Perm (setL [] cs) → ys.Pairwise (fun x y => lexS [skK y] [skK x] = false) → q .nw (.lst (ys.map keyToD))
theorem de_sortSet (hc : X.calm = true) (hg : Gl X "sorted") (hm : X.mg "sorted" = none) (hg2 : Gl X "set") (hm2 : X.mg "set" = none) (ha : DE X W a ta)
    (he : starEach [a] X.env = (false, eval a X.env) :: starEach [] X.env := by rfl) : DE X W (.Call (.Name "sorted" p1) [.Call (.Name "set" p2) [a] [] p3] [] p4) (eSortSet ta) :=
  PE.imp (pe_callB (cr_sortG hc) hg hm bt_sorted (pa_cons (pe_callTy (cr_setG hc) hg2 hm2 boot_set (pa_cons ha pa_nil he) (by decide) (by decide) he) pa_nil)) fun σ H Q => by
    rintro ⟨B, δ, e, q, r0, h, ok, bad⟩
    refine ⟨B, δ, e, _, r0, h, fun v H1 g d s1 R ⟨ds, cs, k0, hs, hk, hl, one, hq⟩ => ?_, bad⟩
    obtain ⟨p, vs, rfl, hv, rr⟩ := seqD_rep hs (R.toB r0) (cut_le _ _)
    have ev := keysD_rep hk rr
    subst ev
    refine ⟨p, cs, rfl, hv, hl, fun l hn => ?_⟩
    have ln := setL_len cs ([] : List Key)
    rw [List.length_nil] at ln
    refine ⟨l, _, k0, rfl, upd_same .., by omega, fun c hc => ?_, fun ys p2 pm so hn2 => ?_⟩
    · rcases (setL_mem cs [] c).mp hc with z | z
      · cases z
      · exact one c z
    · have s2 := s1.trans (same_upd' (o := SetGO X.prog X.w l (setL [] cs)) hn)
      have R2 := resLst (r0.ext s2) hn2 (rep_keys (K := X.K) (H := Frz B (upd H1 l (SetGO X.prog X.w l (setL [] cs))) δ σ) (M := none) ys)
      exact ok _ _ .nw _ (s2.trans (same_upd' hn2)) (R2.back s2) (hq ys pm so)
end
end DL

set_option Elab.async false
set_option linter.all false
set_option maxRecDepth 100000
/-! isinstance(x, T), T a built-in class -/
namespace DL
open PySem PySem.Spec PyProof.Rows L2
theorem bt_isinstance : bootBuiltins "isinstance" = some (.builtin "isinstance") := by decide +kernel
theorem bt_bool : bootBuiltins "bool" = some (.type "bool") := by decide +kernel
theorem bt_int : bootBuiltins "int" = some (.type "int") := by decide +kernel
/-- the name of a value's class -/
def tyN : D → String
  | .non => "NoneType"
  | .bl _ => "bool"
  | .int _ => "int"
  | .str _ => "str"
  | .lst _ => "list"
  | .tup _ => "tuple"
  | .dic _ => "dict"
  | .ktp _ => "tuple"
  | .dtp _ => "dict"
def D.isDtp : D → Bool
  | .dtp _ => true
  | _ => false
def kitD (d : D) (T : String) : Option Bool := match d.isDtp with
  | true => none
  | false => kitB (tyN d) T
theorem tyN_ok {K : PySem.W.Frag} {H Z : Hp} {d : D} {v : V} (nd : d.isDtp = false) (sm : Same Z H) (r : BRep K H Z d v) : TyX K H v (.type (tyN d)) := by
  cases d with
  | non =>
    cases (show v = .non from r)
    exact .base .non
  | bl b =>
    cases (show v = .bl b from r)
    exact .base (.bl b)
  | int i =>
    cases (show v = .int i from r)
    exact .base (.int i)
  | str z =>
    cases (show v = .str z from r)
    exact .base (.str z)
  | lst ds =>
    obtain ⟨a, vs, rfl, q, _⟩ := r
    rcases q with (q | ⟨ob, q⟩) | ⟨ob, _, _, q, c, _⟩
    · exact .base (.lst q)
    · exact .base (.frz q)
    · exact .kList q c
  | tup ds =>
    obtain ⟨a, vs, rfl, ⟨ob, q, _⟩, _⟩ := r
    exact .fTuple (sm _ _ q)
  | dic ds =>
    obtain ⟨a, vs, rfl, q, _⟩ := r
    rcases q with q | ⟨ob, q⟩
    · exact .base (.dK q)
    · exact .fDict q
  | ktp ks =>
    obtain ⟨a, rfl, q⟩ := r
    exact .base (.tup (sm _ _ q))
  | dtp ks => exact nomatch nd
theorem isi_bool {b : Bool} : kitB (tyN (.bl b)) "bool" = some true := by
  show kitB "bool" "bool" = some true
  decide +kernel
theorem isi_str {z : Str} : kitB (tyN (.str z)) "str" = some true := by
  show kitB "str" "str" = some true
  decide +kernel
theorem isi_int_str {z : Int} : kitB (tyN (.int z)) "str" = some false := by
  show kitB "int" "str" = some false
  decide +kernel
theorem isi_tup {z : List D} : kitB (tyN (.tup z)) "tuple" = some true := by
  show kitB "tuple" "tuple" = some true
  decide +kernel
theorem isi_int_tup {z : Int} : kitB (tyN (.int z)) "tuple" = some false := by
  show kitB "int" "tuple" = some false
  decide +kernel
section
variable {X : Cx} {W : WX} {a : Expr} {ta : ET} {T : String} {y : Str} {p1 p2 p3 : Pos}
def eIsi (T : String) (ta : ET) : ET := fun e δ q => ta e δ fun _ x => ∃ b, kitD x T = some b ∧ q .fz (.bl b)
theorem de_isi (hg : Gl X "isinstance") (hm : X.mg "isinstance" = none) (hg2 : Gl X y) (hm2 : X.mg y = none) (hv : bootBuiltins y = some (.type T)) (ha : DE X W a ta) (hn : y ≠ "__name__" := by decide) (hdb : (y == ("__debug__" : Str)) = false := by decide)
    (he : starEach [a, .Name y p2] X.env = (false, eval a X.env) :: starEach [.Name y p2] X.env := by rfl) : DE X W (.Call (.Name "isinstance" p1) [a, .Name y p2] [] p3) (eIsi T ta) :=
  PE.imp (pe_callB call_isi hg hm bt_isinstance (pa_cons ha (pa_cons (pe_bltn (v := .ty T) hg2 hm2 hv rfl hn hdb) pa_nil) he) (by decide) (by decide) he) fun σ H Q => by
    rintro ⟨B, δ, e, q, r0, h, ok, bad⟩
    refine ⟨B, δ, e, _, r0, h, fun v H1 g d s1 R ⟨b, hb, hq⟩ => ?_, bad⟩
    cases nd : d.isDtp with
    | true =>
      unfold kitD at hb
      rw [nd] at hb
      cases hb
    | false =>
      unfold kitD at hb
      rw [nd] at hb
      exact ⟨v, .ty T, .type (tyN d), .type T, b, rfl, .ty T, tyN_ok nd (cut_le _ _) (R.toB r0), kit_ty hb, ok _ _ .fz (.bl b) s1 rfl hq⟩
end
end DL

set_option Elab.async false
set_option linter.all false
set_option maxRecDepth 100000
namespace DL
open PySem

/-! ### trees: names with weights, edges with lengths -/
structure Tr where
  nodes : List (Str × Int)
  edges : List (Str × Str × Int)
def Tr.names (T : Tr) : List Str := T.nodes.map (·.1)
/-- what an edge gives for a -/
def beside (a : Str) (e : Str × Str × Int) : Option (Str × Int) := if e.1 = a then some (e.2.1, e.2.2) else if e.2.1 = a then some (e.1, e.2.2) else none
/-- the neighbors of a, in the order of the edges -/
def Tr.adj (T : Tr) (a : Str) : List (Str × Int) := T.edges.filterMap (beside a)
/-- d tells the distances of T -/
structure Met (T : Tr) (d : Str → Str → Int) : Prop where
  nd : T.names.Nodup
  mem : ∀ {a x l}, (x, l) ∈ T.adj a → a ∈ T.names ∧ x ∈ T.names ∧ 1 ≤ l ∧ x ≠ a
  adjNd : ∀ a, ((T.adj a).map (·.1)).Nodup
  sym : ∀ {a x l}, (x, l) ∈ T.adj a → (a, l) ∈ T.adj x
  pos : ∀ s x, 0 ≤ d s x
  d0 : ∀ s, d s s = 0
  symd : ∀ s x, d s x = d x s
  step : ∀ {s a x l}, s ∈ T.names → (x, l) ∈ T.adj a → d s x = d s a + l ∨ d s a = d s x + l
  par : ∀ {s x}, s ∈ T.names → x ∈ T.names → s ≠ x → ∃ v l, (v, l) ∈ T.adj x ∧ d s x = d s v + l
  uniq : ∀ {s x v l v' l'}, s ∈ T.names → (v, l) ∈ T.adj x → (v', l') ∈ T.adj x → d s x = d s v + l → d s x = d s v' + l' → v = v'
section
variable {T : Tr} {d : Str → Str → Int} (M : Met T d)
include M
theorem Met.of0 {s x : Str} (hs : s ∈ T.names) (hx : x ∈ T.names) (h : d s x = 0) : s = x := by
  by_cases e : s = x
  · exact e
  · obtain ⟨v, l, hv, e1⟩ := M.par hs hx e
    have := M.pos s v
    have := (M.mem hv).2.2.1
    omega
theorem Met.tri {a y b : Str} (ha : a ∈ T.names) (hy : y ∈ T.names) (hb : b ∈ T.names) : d a b ≤ d a y + d y b := by
  have go : ∀ (n : Nat) (b : Str), b ∈ T.names → (d y b).toNat = n → d a b ≤ d a y + d y b := by
    intro n
    induction n using Nat.strongRecOn with
    | ind n ih =>
      intro b hb e
      by_cases h : y = b
      · subst h
        have := M.d0 y
        omega
      · obtain ⟨v, l, hv, e1⟩ := M.par hy hb h
        obtain ⟨_, hvn, hl, _⟩ := M.mem hv
        have p := M.pos y v
        have := ih (d y v).toNat (by omega) v hvn rfl
        rcases M.step ha hv with q | q <;> omega
  exact go _ b hb rfl
/-- x is on the path from a to b -/
def On (d : Str → Str → Int) (a b x : Str) : Prop := d a x + d x b = d a b
/-- along x's way to a, ending at .. -/
theorem Met.on_step {a b x v : Str} {l : Int} (ha : a ∈ T.names) (hb : b ∈ T.names) (hx : x ∈ T.names) (ho : On d a b x) (hv : (v, l) ∈ T.adj x) (e : d a x = d a v + l) : On d a b v := by
  unfold On at ho ⊢
  obtain ⟨_, hvn, hl, _⟩ := M.mem hv
  have t := M.tri ha hvn hb
  have s := M.step hb hv
  have y1 := M.symd b v
  have y2 := M.symd b x
  omega
/-- from x on the path, x not b: a next one -/
theorem Met.on_next {a b x : Str} (ha : a ∈ T.names) (hb : b ∈ T.names) (hx : x ∈ T.names) (ho : On d a b x) (hn : x ≠ b) : ∃ v l, (v, l) ∈ T.adj x ∧ d a v = d a x + l ∧ On d a b v := by
  obtain ⟨v, l, hv, e1⟩ := M.par hb hx (fun e => hn e.symm)
  obtain ⟨_, hvn, hl, _⟩ := M.mem hv
  unfold On at ho
  have t := M.tri ha hvn hb
  have s := M.step ha hv
  have y1 := M.symd b v
  have y2 := M.symd b x
  refine ⟨v, l, hv, by omega, ?_⟩
  unfold On
  omega
theorem Met.on_le {a b x : Str} (ho : On d a b x) : d a x ≤ d a b := by
  have := M.pos x b
  unfold On at ho
  omega
omit M in
/-- n steps from b towards a -/
inductive Up (T : Tr) (d : Str → Str → Int) (a b : Str) : Nat → Str → Prop
  | zero : Up T d a b 0 b
  | succ {n x v l} : Up T d a b n x → (v, l) ∈ T.adj x → d a x = d a v + l → Up T d a b (n + 1) v
theorem Met.up_det {a b : Str} (ha : a ∈ T.names) : ∀ {n : Nat} {x y : Str}, Up T d a b n x → Up T d a b n y → x = y
  | 0, _, _, .zero, .zero => rfl
  | n + 1, _, _, .succ u hv e, .succ u' hv' e' => by
    have := Met.up_det ha u u'
    subst this
    exact M.uniq ha hv hv' e e'
theorem Met.up_mem {a b : Str} (hb : b ∈ T.names) : ∀ {n : Nat} {x : Str}, Up T d a b n x → x ∈ T.names
  | 0, _, .zero => hb
  | n + 1, _, .succ u hv e => (M.mem hv).2.1
theorem Met.up_dec {a b : Str} (ha : a ∈ T.names) {n : Nat} {x : Str} (u : Up T d a b n x) : ∀ {k : Nat} {y : Str}, Up T d a b (n + k) y → d a y + k ≤ d a x
  | 0, y, u' => by
    have := M.up_det ha u u'
    subst this
    omega
  | k + 1, y, .succ u' hv e => by
    have := Met.up_dec ha u u'
    have := (M.mem hv).2.2.1
    omega
theorem Met.up_on {a b : Str} (ha : a ∈ T.names) (hb : b ∈ T.names) : ∀ {n : Nat} {x : Str}, Up T d a b n x → On d a b x
  | 0, _, .zero => by
    unfold On
    have := M.d0 b
    omega
  | n + 1, _, .succ u hv e => M.on_step ha hb (M.up_mem hb u) (Met.up_on ha hb u) hv e
theorem Met.on_up {a b : Str} (ha : a ∈ T.names) (hb : b ∈ T.names) : ∀ {x : Str}, x ∈ T.names → On d a b x → ∃ n, Up T d a b n x := by
  have go : ∀ (m : Nat) (x : Str), x ∈ T.names → On d a b x → (d x b).toNat = m → ∃ n, Up T d a b n x := by
    intro m
    induction m using Nat.strongRecOn with
    | ind m ih =>
      intro x hx ho e
      by_cases hxb : x = b
      · subst hxb
        exact ⟨0, .zero⟩
      · obtain ⟨v, l, hv, e1, ov⟩ := M.on_next ha hb hx ho hxb
        obtain ⟨_, hvn, hl, _⟩ := M.mem hv
        have p := M.pos v b
        unfold On at ho ov
        obtain ⟨n, u⟩ := ih _ (by omega) v hvn ov rfl
        exact ⟨n + 1, .succ u (M.sym hv) e1⟩
  exact fun {x} hx ho => go _ x hx ho rfl
/-- two on the path that are as far from a are the same -/
theorem Met.on_inj {a b x y : Str} (ha : a ∈ T.names) (hb : b ∈ T.names) (hx : x ∈ T.names) (hy : y ∈ T.names) (ox : On d a b x) (oy : On d a b y) (e : d a x = d a y) : x = y := by
  obtain ⟨n, u⟩ := M.on_up ha hb hx ox
  obtain ⟨m, w⟩ := M.on_up ha hb hy oy
  rcases Nat.le_total n m with h | h
  · obtain ⟨k, rfl⟩ := Nat.le.dest h
    have z := M.up_dec ha u w
    have : k = 0 := by omega
    subst this
    exact M.up_det ha u w
  · obtain ⟨k, rfl⟩ := Nat.le.dest h
    have z := M.up_dec ha w u
    have : k = 0 := by omega
    subst this
    exact M.up_det ha u w

/-! ### paths -/
omit M in
/-- r is the path from a to b -/
structure IsPath (T : Tr) (d : Str → Str → Int) (a b : Str) (r : List Str) : Prop where
  mem : ∀ x, x ∈ r ↔ x ∈ T.names ∧ On d a b x
  asc : r.Pairwise fun x y => d a x < d a y
omit M in
/-- lists with the same members, ascending by the same key, are the same -/
theorem asc_eq {k : Str → Int} : ∀ {r s : List Str}, (∀ x, x ∈ r ↔ x ∈ s) → r.Pairwise (fun x y => k x < k y) → s.Pairwise (fun x y => k x < k y) → r = s
  | [], [], _, _, _ => rfl
  | [], y :: s, h, _, _ => absurd ((h y).mpr (by simp)) (by simp)
  | x :: r, [], h, _, _ => absurd ((h x).mp (by simp)) (by simp)
  | x :: r, y :: s, h, p, q => by
    obtain ⟨p1, p2⟩ := List.pairwise_cons.mp p
    obtain ⟨q1, q2⟩ := List.pairwise_cons.mp q
    have e : x = y := by
      rcases List.mem_cons.mp ((h x).mp (by simp)) with e | e
      · exact e
      · rcases List.mem_cons.mp ((h y).mpr (by simp)) with e' | e'
        · exact e'.symm
        · have := q1 x e
          have := p1 y e'
          omega
    subst e
    rw [asc_eq (r := r) (s := s) (fun z => ?_) p2 q2]
    constructor
    · intro hz
      rcases List.mem_cons.mp ((h z).mp (List.mem_cons_of_mem _ hz)) with e | e
      · subst e
        have := p1 z hz
        omega
      · exact e
    · intro hz
      rcases List.mem_cons.mp ((h z).mpr (List.mem_cons_of_mem _ hz)) with e | e
      · subst e
        have := q1 z hz
        omega
      · exact e
omit M in
theorem IsPath.eq {a b : Str} {r s : List Str} (hr : IsPath T d a b r) (hs : IsPath T d a b s) : r = s := asc_eq (fun x => (hr.mem x).trans (hs.mem x).symm) hr.asc hs.asc
/-- any list of the names on it, ascending as the distances do (equal ones allowed), is the path -/
theorem Met.path_of {a b : Str} (ha : a ∈ T.names) (hb : b ∈ T.names) {r : List Str} (hn : r.Nodup) (hm : ∀ x, x ∈ r ↔ x ∈ T.names ∧ On d a b x) (hp : r.Pairwise fun x y => d a x ≤ d a y) : IsPath T d a b r := by
  refine ⟨hm, ?_⟩
  have both := hp.and hn
  refine List.Pairwise.imp_of_mem ?_ both
  intro x y hx hy ⟨h1, h2⟩
  rcases Int.lt_or_eq_of_le h1 with h | h
  · exact h
  · obtain ⟨hx1, hx2⟩ := (hm x).mp hx
    obtain ⟨hy1, hy2⟩ := (hm y).mp hy
    exact absurd (M.on_inj ha hb hx1 hy1 hx2 hy2 h) h2
/-! ### the meeting of three -/
/-- where the ways to a and to b part -/
theorem Met.apart_on {a b x v u : Str} {l k : Int} (ha : a ∈ T.names) (hb : b ∈ T.names) (hx : x ∈ T.names) (hv : (v, l) ∈ T.adj x) (ev : d a x = d a v + l) (hu : (u, k) ∈ T.adj x) (eu : d b x = d b u + k) (hn : v ≠ u) : On d a b x := by
  -- along the way to b the distance from a grows
  have go : ∀ (m : Nat) (y v' : Str) (l' : Int), y ∈ T.names → (v', l') ∈ T.adj y → d a y = d a v' + l' → (∀ u' k', (u', k') ∈ T.adj y → d b y = d b u' + k' → u' ≠ v') → (d b y).toNat = m → d a y + d y b = d a b := by
    intro m
    induction m using Nat.strongRecOn with
    | ind m ih =>
      intro y v' l' hy hv' e' hne em
      by_cases hyb : b = y
      · subst hyb
        have := M.d0 b
        omega
      · obtain ⟨u', k', hu', e2⟩ := M.par hb hy hyb
        obtain ⟨_, hun, hk, _⟩ := M.mem hu'
        have ne := hne u' k' hu' e2
        have p := M.pos b u'
        have y1 := M.symd b y
        have y2 := M.symd b u'
        have grow : d a u' = d a y + k' := by
          rcases M.step ha hu' with q | q
          · exact q
          · exact absurd (M.uniq ha hu' hv' q e') ne
        have := ih _ (by omega) u' y k' hun (M.sym hu') grow (fun u2 k2 h2 e3 => ?_) rfl
        · omega
        · intro z
          subst z
          have := (M.mem h2).2.2.1
          omega
  exact go _ x v l hx hv ev (fun u' k' hu' e' z => hn (by rw [← z]; exact (M.uniq hb hu' hu e' eu))) rfl
omit M in
/-- m is the meeting of a, b, c -/
def IsMeet (T : Tr) (d : Str → Str → Int) (a b c m : Str) : Prop := m ∈ T.names ∧ On d a b m ∧ On d b c m ∧ On d a c m
theorem Met.meet {a b c : Str} (ha : a ∈ T.names) (hb : b ∈ T.names) (hc : c ∈ T.names) : ∃ m, IsMeet T d a b c m := by
  -- from c towards a, the first one on the path from a to b
  have go : ∀ (n : Nat) (x : Str), x ∈ T.names → On d a c x → On d b c x → (d a x).toNat = n → ∃ m, IsMeet T d a b c m := by
    intro n
    induction n using Nat.strongRecOn with
    | ind n ih =>
      intro x hx oa ob en
      by_cases h : On d a b x
      · exact ⟨x, hx, h, ob, oa⟩
      · have hax : a ≠ x := fun z => by
          subst z
          apply h
          unfold On
          have := M.d0 a
          omega
        have hbx : b ≠ x := fun z => by
          subst z
          apply h
          unfold On
          have := M.d0 b
          omega
        obtain ⟨v, l, hv, ev⟩ := M.par ha hx hax
        obtain ⟨u, k, hu, eu⟩ := M.par hb hx hbx
        have e : v = u := by
          by_cases q : v = u
          · exact q
          · exact absurd (M.apart_on ha hb hx hv ev hu eu q) h
        subst e
        obtain ⟨_, hvn, hl, _⟩ := M.mem hv
        have p := M.pos a v
        exact ih _ (by omega) v hvn (M.on_step ha hc hx oa hv ev) (M.on_step hb hc hx ob hu eu) rfl
  refine go _ c hc ?_ ?_ rfl
  · unfold On
    have := M.d0 c
    omega
  · unfold On
    have := M.d0 c
    omega
theorem Met.meet_eq {a b c m m' : Str} (ha : a ∈ T.names) (hb : b ∈ T.names) (h : IsMeet T d a b c m) (h' : IsMeet T d a b c m') : m = m' := by
  obtain ⟨h1, h2, h3, h4⟩ := h
  obtain ⟨g1, g2, g3, g4⟩ := h'
  refine M.on_inj ha hb h1 g1 h2 g2 ?_
  have y1 := M.symd m b
  have y2 := M.symd m' b
  unfold On at *
  omega
end
end DL

set_option Elab.async false
set_option linter.all false
set_option maxRecDepth 100000
namespace DL
open PySem

/-! ### trees that are grown leaf by leaf: (leaf, its neighbor, length), newest first -/
abbrev Bld := List (Str × Str × Int)
def nodesB (r : Str) (bs : Bld) : List Str := bs.map (·.1) ++ [r]
def OkB (r : Str) : Bld → Prop
  | [] => True
  | e :: bs => OkB r bs ∧ e.1 ∉ nodesB r bs ∧ e.2.1 ∈ nodesB r bs ∧ 1 ≤ e.2.2
def dB : Bld → Str → Str → Int
  | [], _, _ => 0
  | e :: bs, s, x => if s = e.1 then (if x = e.1 then 0 else dB bs e.2.1 x + e.2.2) else if x = e.1 then dB bs s e.2.1 + e.2.2 else dB bs s x
def adjB (bs : Bld) (a : Str) : List (Str × Int) := bs.filterMap (beside a)
theorem mem_nodesB {r x : Str} {e : Str × Str × Int} {bs : Bld} : x ∈ nodesB r (e :: bs) ↔ x = e.1 ∨ x ∈ nodesB r bs := by simp [nodesB]
theorem nodesB_nd {r : Str} : ∀ {bs : Bld}, OkB r bs → (nodesB r bs).Nodup
  | [], _ => by simp [nodesB]
  | e :: bs, h => List.nodup_cons.mpr ⟨h.2.1, nodesB_nd h.1⟩
theorem mem_adjB {a x : Str} {l : Int} {e : Str × Str × Int} {bs : Bld} : (x, l) ∈ adjB (e :: bs) a ↔ (a = e.1 ∧ x = e.2.1 ∧ l = e.2.2) ∨ (a ≠ e.1 ∧ a = e.2.1 ∧ x = e.1 ∧ l = e.2.2) ∨ (x, l) ∈ adjB bs a := by
  unfold adjB beside
  rw [List.filterMap_cons]
  by_cases h1 : e.1 = a
  · rw [if_pos h1]
    simp only [List.mem_cons, Prod.mk.injEq]
    constructor
    · rintro (⟨z1, z2⟩ | z)
      · exact .inl ⟨h1.symm, z1, z2⟩
      · exact .inr (.inr z)
    · rintro (⟨_, z1, z2⟩ | ⟨z, _⟩ | z)
      · exact .inl ⟨z1, z2⟩
      · exact absurd h1.symm z
      · exact .inr z
  · rw [if_neg h1]
    by_cases h2 : e.2.1 = a
    · rw [if_pos h2]
      simp only [List.mem_cons, Prod.mk.injEq]
      constructor
      · rintro (⟨z1, z2⟩ | z)
        · exact .inr (.inl ⟨fun z => h1 z.symm, h2.symm, z1, z2⟩)
        · exact .inr (.inr z)
      · rintro (⟨z, _⟩ | ⟨_, _, z1, z2⟩ | z)
        · exact absurd z.symm h1
        · exact .inl ⟨z1, z2⟩
        · exact .inr z
    · rw [if_neg h2]
      constructor
      · intro z
        exact .inr (.inr z)
      · rintro (⟨z, _⟩ | ⟨_, z, _⟩ | z)
        · exact absurd z.symm h1
        · exact absurd z.symm h2
        · exact z
theorem dB_pos {r : Str} : ∀ {bs : Bld}, OkB r bs → ∀ s x, 0 ≤ dB bs s x
  | [], _, _, _ => Int.le_refl 0
  | e :: bs, h, s, x => by
    have h1 := dB_pos h.1 e.2.1 x
    have h2 := dB_pos h.1 s e.2.1
    have h3 := dB_pos h.1 s x
    have h4 := h.2.2.2
    unfold dB
    repeat' split
    all_goals omega
theorem dB_self : ∀ (bs : Bld) (s : Str), dB bs s s = 0
  | [], _ => rfl
  | e :: bs, s => by
    unfold dB
    split
    · rfl
    · exact dB_self bs s
theorem dB_symm : ∀ (bs : Bld) (s x : Str), dB bs s x = dB bs x s
  | [], _, _ => rfl
  | e :: bs, s, x => by
    have h1 := dB_symm bs e.2.1 x
    have h2 := dB_symm bs s e.2.1
    have h3 := dB_symm bs s x
    unfold dB
    repeat' split
    all_goals omega
theorem adjB_mem {r a x : Str} {l : Int} : ∀ {bs : Bld}, OkB r bs → (x, l) ∈ adjB bs a → a ∈ nodesB r bs ∧ x ∈ nodesB r bs ∧ 1 ≤ l ∧ x ≠ a
  | [], _, h => by simp [adjB] at h
  | e :: bs, ok, h => by
    have ne : e.2.1 ≠ e.1 := fun z => ok.2.1 (by rw [← z]; exact ok.2.2.1)
    rw [mem_nodesB, mem_nodesB]
    rcases mem_adjB.mp h with ⟨rfl, rfl, rfl⟩ | ⟨_, rfl, rfl, rfl⟩ | h
    · exact ⟨.inl rfl, .inr ok.2.2.1, ok.2.2.2, ne⟩
    · exact ⟨.inr ok.2.2.1, .inl rfl, ok.2.2.2, ne.symm⟩
    · obtain ⟨z1, z2, z3, z4⟩ := adjB_mem ok.1 h
      exact ⟨.inr z1, .inr z2, z3, z4⟩
theorem adjB_sym {r a x : Str} {l : Int} : ∀ {bs : Bld}, OkB r bs → (x, l) ∈ adjB bs a → (a, l) ∈ adjB bs x
  | [], _, h => by simp [adjB] at h
  | e :: bs, ok, h => by
    have ne : e.2.1 ≠ e.1 := fun z => ok.2.1 (by rw [← z]; exact ok.2.2.1)
    refine mem_adjB.mpr ?_
    rcases mem_adjB.mp h with ⟨rfl, rfl, rfl⟩ | ⟨_, rfl, rfl, rfl⟩ | h
    · exact .inr (.inl ⟨ne, rfl, rfl, rfl⟩)
    · exact .inl ⟨rfl, rfl, rfl⟩
    · exact .inr (.inr (adjB_sym ok.1 h))
theorem adjB_nd {r a : Str} : ∀ {bs : Bld}, OkB r bs → ((adjB bs a).map (·.1)).Nodup
  | [], _ => by simp [adjB]
  | e :: bs, ok => by
    have ih := adjB_nd (a := a) ok.1
    have old : ∀ {x : Str} {l : Int}, (x, l) ∈ adjB bs a → a ≠ e.1 ∧ x ≠ e.1 := fun h => by
      obtain ⟨z1, z2, _⟩ := adjB_mem ok.1 h
      exact ⟨fun z => ok.2.1 (by rw [← z]; exact z1), fun z => ok.2.1 (by rw [← z]; exact z2)⟩
    have out : ∀ {y : Str}, (∀ x l, (x, l) ∈ adjB bs a → x ≠ y) → y ∉ (adjB bs a).map (·.1) := fun h z => by
      obtain ⟨⟨x, l⟩, z1, z2⟩ := List.mem_map.mp z
      exact h x l z1 z2
    unfold adjB at ih ⊢
    rw [List.filterMap_cons]
    unfold beside
    by_cases h1 : e.1 = a
    · rw [if_pos h1]
      refine List.nodup_cons.mpr ⟨out fun x l h => absurd h1.symm (old h).1, ih⟩
    · rw [if_neg h1]
      by_cases h2 : e.2.1 = a
      · rw [if_pos h2]
        exact List.nodup_cons.mpr ⟨out fun x l h => (old h).2, ih⟩
      · rw [if_neg h2]
        exact ih
theorem dB_step {r a x : Str} {l : Int} : ∀ {bs : Bld} {s : Str}, OkB r bs → s ∈ nodesB r bs → (x, l) ∈ adjB bs a → dB bs s x = dB bs s a + l ∨ dB bs s a = dB bs s x + l
  | [], _, _, _, h => by simp [adjB] at h
  | e :: bs, s, ok, hs, h => by
    have ne : e.2.1 ≠ e.1 := fun z => ok.2.1 (by rw [← z]; exact ok.2.2.1)
    have ne' : e.1 ≠ e.2.1 := ne.symm
    have self := dB_self bs e.2.1
    rcases mem_adjB.mp h with ⟨rfl, rfl, rfl⟩ | ⟨_, rfl, rfl, rfl⟩ | h
    · by_cases c : s = e.1
      · subst c
        left
        simp [dB, ne, self]
      · right
        simp [dB, ne, c]
    · by_cases c : s = e.1
      · subst c
        right
        simp [dB, ne, self]
      · left
        simp [dB, ne, c]
    · obtain ⟨z1, z2, _⟩ := adjB_mem ok.1 h
      have na : a ≠ e.1 := fun z => ok.2.1 (by rw [← z]; exact z1)
      have nx : x ≠ e.1 := fun z => ok.2.1 (by rw [← z]; exact z2)
      by_cases c : s = e.1
      · subst c
        have := dB_step ok.1 ok.2.2.1 h
        simp only [dB, if_pos, if_neg na, if_neg nx]
        omega
      · have hs' := (mem_nodesB.mp hs).resolve_left c
        have := dB_step ok.1 hs' h
        simp only [dB, if_neg c, if_neg na, if_neg nx]
        omega
theorem dB_par {r x : Str} : ∀ {bs : Bld} {s : Str}, OkB r bs → s ∈ nodesB r bs → x ∈ nodesB r bs → s ≠ x → ∃ v l, (v, l) ∈ adjB bs x ∧ dB bs s x = dB bs s v + l
  | [], s, _, hs, hx, n => by
    simp [nodesB] at hs hx
    exact absurd (hs.trans hx.symm) n
  | e :: bs, s, ok, hs, hx, n => by
    have ne : e.2.1 ≠ e.1 := fun z => ok.2.1 (by rw [← z]; exact ok.2.2.1)
    by_cases cx : x = e.1
    · subst cx
      refine ⟨e.2.1, e.2.2, mem_adjB.mpr (.inl ⟨rfl, rfl, rfl⟩), ?_⟩
      simp only [dB, if_neg n, if_neg ne, if_pos]
    · have hx' := (mem_nodesB.mp hx).resolve_left cx
      by_cases c : s = e.1
      · subst c
        by_cases cu : e.2.1 = x
        · subst cu
          refine ⟨e.1, e.2.2, mem_adjB.mpr (.inr (.inl ⟨ne, rfl, rfl, rfl⟩)), ?_⟩
          simp [dB, ne, dB_self]
        · obtain ⟨v, l, hv, ev⟩ := dB_par ok.1 ok.2.2.1 hx' cu
          have nv : v ≠ e.1 := fun z => ok.2.1 (by rw [← z]; exact (adjB_mem ok.1 hv).2.1)
          refine ⟨v, l, mem_adjB.mpr (.inr (.inr hv)), ?_⟩
          simp only [dB, if_pos, if_neg cx, if_neg nv]
          omega
      · have hs' := (mem_nodesB.mp hs).resolve_left c
        obtain ⟨v, l, hv, ev⟩ := dB_par ok.1 hs' hx' n
        have nv : v ≠ e.1 := fun z => ok.2.1 (by rw [← z]; exact (adjB_mem ok.1 hv).2.1)
        refine ⟨v, l, mem_adjB.mpr (.inr (.inr hv)), ?_⟩
        simp only [dB, if_neg c, if_neg cx, if_neg nv]
        omega
theorem dB_uniq {r x v v' : Str} {l l' : Int} : ∀ {bs : Bld} {s : Str}, OkB r bs → s ∈ nodesB r bs → (v, l) ∈ adjB bs x → (v', l') ∈ adjB bs x → dB bs s x = dB bs s v + l → dB bs s x = dB bs s v' + l' → v = v'
  | [], _, _, _, h, _, _, _ => by simp [adjB] at h
  | e :: bs, s, ok, hs, h, h', q, q' => by
    have ne : e.2.1 ≠ e.1 := fun z => ok.2.1 (by rw [← z]; exact ok.2.2.1)
    have self := dB_self bs e.2.1
    have w1 := ok.2.2.2
    have old : ∀ {y : Str} {k : Int}, (y, k) ∈ adjB bs x → x ≠ e.1 ∧ y ≠ e.1 ∧ 1 ≤ k := fun h => by
      obtain ⟨z1, z2, z3, _⟩ := adjB_mem ok.1 h
      exact ⟨fun z => ok.2.1 (by rw [← z]; exact z1), fun z => ok.2.1 (by rw [← z]; exact z2), z3⟩
    -- the new leaf is no step from its neighbor, unless it is the start
    have new : ∀ {y : Str} {k : Int}, x ≠ e.1 → x = e.2.1 → dB (e :: bs) s x = dB (e :: bs) s e.1 + e.2.2 → (y, k) ∈ adjB bs x → dB (e :: bs) s x = dB (e :: bs) s y + k → False := fun {y k} n1 n2 q1 hy q2 => by
      obtain ⟨_, ny, hk⟩ := old hy
      by_cases c : s = e.1
      · subst c
        simp only [dB, if_pos, if_neg n1, if_neg ny] at q2
        rw [n2, self] at q2
        have := dB_pos ok.1 e.2.1 y
        omega
      · simp only [dB, if_neg c, if_pos, if_neg n1] at q1
        rw [n2] at q1
        omega
    rcases mem_adjB.mp h with ⟨c1, c2, c3⟩ | ⟨c0, c1, c2, c3⟩ | h
    · rcases mem_adjB.mp h' with ⟨d1, d2, d3⟩ | ⟨d0, d1, d2, d3⟩ | h'
      · rw [c2, d2]
      · exact absurd c1 d0
      · exact absurd c1 (old h').1
    · rcases mem_adjB.mp h' with ⟨d1, d2, d3⟩ | ⟨d0, d1, d2, d3⟩ | h'
      · exact absurd d1 c0
      · rw [c2, d2]
      · subst c2 c3
        exact (new c0 c1 q h' q').elim
    · rcases mem_adjB.mp h' with ⟨d1, d2, d3⟩ | ⟨d0, d1, d2, d3⟩ | h'
      · exact absurd d1 (old h).1
      · subst d2 d3
        exact (new d0 d1 q' h q).elim
      · obtain ⟨nx, nv, _⟩ := old h
        obtain ⟨_, nv', _⟩ := old h'
        by_cases c : s = e.1
        · subst c
          simp only [dB, if_pos, if_neg nx, if_neg nv, if_neg nv'] at q q'
          exact dB_uniq ok.1 ok.2.2.1 h h' (by omega) (by omega)
        · have hs' := (mem_nodesB.mp hs).resolve_left c
          simp only [dB, if_neg c, if_neg nx, if_neg nv, if_neg nv'] at q q'
          exact dB_uniq ok.1 hs' h h' q q'
/-- a tree with these nodes and edges, in any order -/
theorem met_of {r : Str} {bs : Bld} {T : Tr} (ok : OkB r bs) (hn : T.names.Perm (nodesB r bs)) (he : ∀ a, (T.adj a).Perm (adjB bs a)) : Met T (dB bs) where
  nd := hn.nodup_iff.mpr (nodesB_nd ok)
  mem := fun {a x l} h => by
    obtain ⟨z1, z2, z3, z4⟩ := adjB_mem ok ((he a).mem_iff.mp h)
    exact ⟨hn.mem_iff.mpr z1, hn.mem_iff.mpr z2, z3, z4⟩
  adjNd := fun a => ((he a).map _).nodup_iff.mpr (adjB_nd ok)
  sym := fun {a x l} h => (he x).mem_iff.mpr (adjB_sym ok ((he a).mem_iff.mp h))
  pos := dB_pos ok
  d0 := dB_self bs
  symd := dB_symm bs
  step := fun hs h => dB_step ok (hn.mem_iff.mp hs) ((he _).mem_iff.mp h)
  par := fun hs hx n => by
    obtain ⟨v, l, h, e⟩ := dB_par ok (hn.mem_iff.mp hs) (hn.mem_iff.mp hx) n
    exact ⟨v, l, (he _).mem_iff.mpr h, e⟩
  uniq := fun hs h h' => dB_uniq ok (hn.mem_iff.mp hs) ((he _).mem_iff.mp h) ((he _).mem_iff.mp h')
end DL

set_option Elab.async false
set_option linter.all false
set_option maxRecDepth 100000
namespace DL
open PySem PySem.Spec PyProof.Rows L2

/-! ### data of trees -/
def nodeD (p : Str × Int) : D := .tup [.str p.1, .int p.2]
def edgeD (e : Str × Str × Int) : D := .tup [.str e.1, .str e.2.1, .int e.2.2]
def treeD (T : Tr) : D := .tup [.tup (T.nodes.map nodeD), .tup (T.edges.map edgeD)]
def farD (m : List (Str × Int)) : D := .dic (m.map fun p => (.inr p.1, .int p.2))
def strsD (r : List Str) : D := .lst (r.map .str)
/-! ### loops -/
theorem forR_map {α : Type} (g : α → D) (Inv : List α → DSt → Prop) {f : Gv} {tg : GT} {tb : ST} {fg : List Nat} {E : En} (h0 : ∀ δ, Inv [] δ → E.nx δ)
    (h1 : ∀ a r δ (nx : DSt → Prop), Inv (a :: r) δ → (∀ δ', Inv r δ' → nx δ') → tg f (g a) δ fun δ2 => tb { E with nx := fun δ' => nx (forget fg δ'), ct := fun δ' => nx (forget fg δ'), bk := E.nx } δ2) :
    ∀ (l : List α) (δ : DSt), Inv l δ → forR f tg tb fg E (l.map g) δ
  | [], δ, h => h0 δ h
  | a :: r, δ, h => h1 a r δ (forR f tg tb fg E (r.map g)) h (forR_map g Inv h0 h1 r)
theorem ite2D {A B : Prop} {b : Bool} (h1 : b = true → A) (h2 : b = false → B) : if b = true then A else B := by
  cases b with
  | true => rw [if_pos rfl]; exact h1 rfl
  | false => rw [if_neg Bool.false_ne_true]; exact h2 rfl
theorem itT {A B : Prop} (h : A) : if true = true then A else B := by rw [if_pos rfl]; exact h
theorem itF {A B : Prop} (h : B) : if false = true then A else B := by rw [if_neg Bool.false_ne_true]; exact h
theorem line1000 {n : Nat} (h : n ≤ 1000) : n ≤ sizeLine := Nat.le_trans h (by decide)
theorem lt1000 {n : Nat} (h : n ≤ 1000) : n < sizeLine := Nat.lt_of_le_of_lt h (by decide)
/-! ### sorting of pairs -/
def sort2 (l : List (Str × Int)) : List (Str × Int) := l.mergeSort fun a b => leD (nodeD a) (nodeD b)
theorem sort2_map (l : List (Str × Int)) : sortD (l.map nodeD) = (sort2 l).map nodeD := (List.map_mergeSort (f := nodeD) (s := leD) (r := fun a b => leD (nodeD a) (nodeD b)) fun _ _ _ _ => rfl).symm
theorem sort2_perm (l : List (Str × Int)) : (sort2 l).Perm l := List.mergeSort_perm _ _
theorem srtb2 (l : List (Str × Int)) : SrtbD (l.map nodeD) := .inr ⟨false, [true], fun d hd => by
  obtain ⟨p, _, rfl⟩ := List.mem_map.mp hd
  exact ⟨_, rfl, rfl, rfl⟩⟩
theorem immA_map {α : Type} {g : α → D} (h : ∀ a, (g a).imm = true) : ∀ l : List α, immA (l.map g) = true
  | [] => rfl
  | a :: l => by rw [List.map_cons, immA, h a, immA_map h l] <;> rfl
/-- the neighbors, ascending -/
def Tr.near (T : Tr) (a : Str) : List (Str × Int) := sort2 (T.adj a)
def Small (T : Tr) : Prop := T.nodes.length ≤ 1000 ∧ T.edges.length ≤ 1000
theorem Small.adj {T : Tr} (h : Small T) (a : Str) : (T.adj a).length ≤ 1000 := Nat.le_trans (List.length_filterMap_le _ _) h.2
def N_names_of : List Str := ["some_tree", "name", "_"]
def t_names_of : ST := (sRet (eLc (itSeq (eOp fIx (eVar 0) (eC (.int 0)))) [1, 2] (tTup (fits 2 (tsCons (tName 1) (tsCons (tName 2) tsNil)))) bYes (eVar 1)))
def N_weight_of : List Str := ["some_tree", "name"]
def t_weight_of : ST := (sRet (eOp fIx (eCB fDict (aCons (eOp fIx (eVar 0) (eC (.int 0))) aNil)) (eVar 1)))
def N_neighbors : List Str := ["some_tree", "name", "found", "first", "second", "length"]
def t_neighbors : ST := (sSeq (sSet 2 (eLst aNil))
  (sSeq (sForget [3, 4, 5] (sFor (itSeq (eOp fIx (eVar 0) (eC (.int 1)))) (tTup (fits 3 (tsCons (tName 3) (tsCons (tName 4) (tsCons (tName 5) tsNil))))) (sIf (bCmp fEq (eVar 3) (eVar 1)) (sApp 2 (eTup (iCons (eVar 4) (iCons (eVar 5) aNil)))) (sIf (bCmp fEq (eVar 4) (eVar 1)) (sApp 2 (eTup (iCons (eVar 3) (iCons (eVar 5) aNil)))) sNext)) [0, 3, 4, 5]))
  (sRet (eCB fSorted (aCons (eVar 2) aNil)))))
/-! ### names_of -/
def sp_names_of : SpT := fun ds e q => ∃ T, ds = [treeD T] ∧ Small T ∧ q (strsD T.names)
theorem len_names_of : ∀ ds e q, sp_names_of ds e q → ds.length = ["some_tree"].length := by
  rintro _ e q ⟨T, rfl, _⟩
  rfl
theorem lcR_map {α : Type} (g : α → D) (h : α → D) {f : Gv} {tg : GT} {elt : ET} {δ : DSt} (ht : ∀ a q, (∀ t, t ≠ .bo → q t (h a)) → tg f (g a) δ fun δ2 => elt xn δ2 q) :
    ∀ (l : List α) (q : List D → Prop), q (l.map h) → lcR f tg bYes elt δ (l.map g) q
  | [], q, hq => hq
  | a :: l, q, hq => ht a _ fun t nt => by
    have := lcR_map g h ht l (fun ys => q (h a :: ys)) hq
    cases t with
    | bo => exact absurd rfl nt
    | _ => exact this
/-! ### comprehensions with a test -/
theorem lcR_flt {α : Type} (g : α → D) (p : α → Bool) (h : α → D) {f : Gv} {tg : GT} {tst : BT} {elt : ET} {δ : DSt} :
    ∀ (l : List α), (∀ a ∈ l, ∀ (A : D → Prop) (B : Prop), (p a = true → A (h a)) → (p a = false → B) → tg f (g a) δ fun δ2 => tst xn δ2 fun b => if b = true then elt xn δ2 fun t y => t.put (A y) else B) →
      ∀ (q : List D → Prop), q ((l.filter p).map h) → lcR f tg tst elt δ (l.map g) q
  | [], _, q, hq => hq
  | a :: l, ht, q, hq => by
    refine ht a (by simp) (fun y => lcR f tg tst elt δ (l.map g) fun ys => q (y :: ys)) (lcR f tg tst elt δ (l.map g) q) (fun e => ?_) fun e => ?_
    · refine lcR_flt g p h l (fun b hb => ht b (List.mem_cons_of_mem _ hb)) _ ?_
      rw [List.filter_cons, if_pos e] at hq
      exact hq
    · refine lcR_flt g p h l (fun b hb => ht b (List.mem_cons_of_mem _ hb)) _ ?_
      rw [List.filter_cons, if_neg (by rw [e]; exact Bool.false_ne_true)] at hq
      exact hq
/-- a comprehension whose test may find anything -/
theorem lcR_sub {α : Type} (g : α → D) (h : α → D) {f : Gv} {tg : GT} {tst : BT} {elt : ET} {δ : DSt} :
    ∀ (l : List α), (∀ a ∈ l, ∀ (A : D → Prop) (B : Prop), A (h a) → B → tg f (g a) δ fun δ2 => tst xn δ2 fun b => if b = true then elt xn δ2 fun t y => t.put (A y) else B) →
      ∀ (q : List D → Prop), (∀ s : List α, s.Sublist l → q (s.map h)) → lcR f tg tst elt δ (l.map g) q
  | [], _, q, hq => hq [] (List.Sublist.refl _)
  | a :: l, ht, q, hq => ht a (by simp) (fun y => lcR f tg tst elt δ (l.map g) fun ys => q (y :: ys)) (lcR f tg tst elt δ (l.map g) q)
      (lcR_sub g h l (fun b hb => ht b (List.mem_cons_of_mem _ hb)) _ fun s hs => hq (a :: s) (hs.cons_cons a)) (lcR_sub g h l (fun b hb => ht b (List.mem_cons_of_mem _ hb)) _ fun s hs => hq s (hs.cons a))
theorem m_names_of : ∀ ds e q, sp_names_of ds e q → t_names_of { nx := fun _ => q .non, rt := q, xe := fun x _ => e x } (startD N_names_of ds) := by
  rintro _ e q ⟨T, rfl, hs, h⟩
  refine ⟨.tup (T.nodes.map nodeD), rfl, ⟨⟨trivial, trivial, trivial⟩, by rw [List.length_map]; exact line1000 hs.1⟩, ?_⟩
  refine lcR_map nodeD (fun p => .str p.1) (fun p q hq => ?_) T.nodes _ ?_
  · exact ⟨rfl, hq .fz (fun z => nomatch z)⟩
  · refine ⟨immA_map (fun _ => rfl) _, ?_⟩
    unfold strsD Tr.names at h
    rw [List.map_map] at h
    exact h
/-! ### weight_of -/
theorem pairsD_map : ∀ l : List (Str × Int), pairsD (l.map nodeD) = some (l.map fun p => ((.inr p.1 : Key), D.int p.2))
  | [] => rfl
  | p :: l => by
    rw [List.map_cons]
    show (match keyD (.str p.1), pairsD (l.map nodeD) with
      | some c, some m => some ((c, D.int p.2) :: m)
      | _, _ => none) = _
    rw [pairsD_map l] <;> rfl
theorem lookD_map {m : List (Str × Int)} (hn : (m.map (·.1)).Nodup) {x : Str} {d : Int} (h : (x, d) ∈ m) : lookD (m.map fun p => (.inr p.1, .int p.2)) (.inr x) = some (.int d) := by
  induction m with
  | nil => cases h
  | cons p m ih =>
    obtain ⟨n1, n2⟩ := List.nodup_cons.mp hn
    unfold lookD at ih ⊢
    rw [List.map_cons, List.find?_cons]
    by_cases e : p.1 = x
    · have ep : p = (x, d) := by
        rcases List.mem_cons.mp h with h | h
        · exact h.symm
        · exact absurd (List.mem_map.mpr ⟨(x, d), h, e.symm⟩) n1
      subst ep
      simp
    · have h' : (x, d) ∈ m := by
        rcases List.mem_cons.mp h with h | h
        · rw [← h] at e
          exact absurd rfl e
        · exact h
      have : decide ((Sum.inr p.1 : Key) = .inr x) = false := decide_eq_false fun z => e (Sum.inr.inj z)
      rw [this]
      exact ih n2 h'
theorem lookD_none {m : List (Str × Int)} {x : Str} (h : x ∉ m.map (·.1)) : lookD (m.map fun p => (.inr p.1, .int p.2)) (.inr x) = none := by
  unfold lookD
  rw [Option.map_eq_none_iff, List.find?_eq_none]
  intro kv hk
  obtain ⟨p, hp, rfl⟩ := List.mem_map.mp hk
  have : p.1 ≠ x := fun e => h (List.mem_map.mpr ⟨p, hp, e⟩)
  simpa using this
theorem putD_new {kds : List (Key × D)} {k : Key} {d : D} (h : ∀ kv ∈ kds, kv.1 ≠ k) : putD kds k d = kds ++ [(k, d)] := by
  unfold putD
  rw [if_neg]
  intro z
  obtain ⟨kv, hk, e⟩ := List.any_eq_true.mp z
  exact h kv hk (by simpa using e)
theorem putD_map {m : List (Str × Int)} {x : Str} {d : Int} (h : x ∉ m.map (·.1)) : putD (m.map fun p => ((.inr p.1 : Key), D.int p.2)) (.inr x) (.int d) = (m ++ [(x, d)]).map fun p => ((.inr p.1 : Key), D.int p.2) := by
  rw [putD_new, List.map_append] <;> try rfl
  intro kv hk e
  obtain ⟨p, hp, rfl⟩ := List.mem_map.mp hk
  exact h (List.mem_map.mpr ⟨p, hp, Sum.inr.inj e⟩)
theorem mergeD_map : ∀ (l acc : List (Str × Int)), ((acc ++ l).map (·.1)).Nodup → mergeD (acc.map fun p => ((.inr p.1 : Key), D.int p.2)) (l.map fun p => ((.inr p.1 : Key), D.int p.2)) = (acc ++ l).map fun p => ((.inr p.1 : Key), D.int p.2)
  | [], acc, _ => by
    rw [List.append_nil] <;> rfl
  | p :: l, acc, h => by
    have n : p.1 ∉ acc.map (·.1) := fun z => by
      rw [List.map_append, List.map_cons] at h
      exact (List.nodup_append.mp h).2.2 _ z _ (by simp) rfl
    have e : acc ++ p :: l = acc ++ [(p.1, p.2)] ++ l := by simp
    rw [e] at h ⊢
    rw [← mergeD_map l (acc ++ [(p.1, p.2)]) h, ← putD_map n] <;> rfl
def sp_weight_of : SpT := fun ds e q => ∃ T a x, ds = [treeD T, .str a] ∧ T.names.Nodup ∧ (a, x) ∈ T.nodes ∧ q (.int x)
theorem len_weight_of : ∀ ds e q, sp_weight_of ds e q → ds.length = ["some_tree", "name"].length := by
  rintro _ e q ⟨T, a, x, rfl, _⟩
  rfl
theorem m_weight_of : ∀ ds e q, sp_weight_of ds e q → t_weight_of { nx := fun _ => q .non, rt := q, xe := fun x _ => e x } (startD N_weight_of ds) := by
  rintro _ e q ⟨T, a, x, rfl, hn, hm, h⟩
  refine ⟨.tup (T.nodes.map nodeD), rfl, _, pairsD_map _, .int x, ?_, rfl, h⟩
  have := mergeD_map T.nodes [] hn
  rw [show mergeD [] (T.nodes.map fun p => ((.inr p.1 : Key), D.int p.2)) = T.nodes.map fun p => ((.inr p.1 : Key), D.int p.2) from this]
  exact lookD_map hn hm
/-! ### neighbors -/
def sp_neighbors : SpT := fun ds e q => ∃ T a, ds = [treeD T, .str a] ∧ Small T ∧ q (.lst ((T.near a).map nodeD))
theorem len_neighbors : ∀ ds e q, sp_neighbors ds e q → ds.length = ["some_tree", "name"].length := by
  rintro _ e q ⟨T, a, rfl, _⟩
  rfl
theorem beside1 {a : Str} {e : Str × Str × Int} (h : e.1 = a) : beside a e = some (e.2.1, e.2.2) := if_pos h
theorem beside2 {a : Str} {e : Str × Str × Int} (h : ¬ e.1 = a) (h2 : e.2.1 = a) : beside a e = some (e.1, e.2.2) := by rw [beside, if_neg h, if_pos h2]
theorem beside3 {a : Str} {e : Str × Str × Int} (h : ¬ e.1 = a) (h2 : ¬ e.2.1 = a) : beside a e = none := by rw [beside, if_neg h, if_neg h2]
theorem m_neighbors : ∀ ds e q, sp_neighbors ds e q → t_neighbors { nx := fun _ => q .non, rt := q, xe := fun x _ => e x } (startD N_neighbors ds) := by
  rintro _ e q ⟨T, a, rfl, hs, h⟩
  refine ⟨Nat.zero_le _, .tup (T.edges.map edgeD), rfl, ?_⟩
  refine forR_map edgeD (fun r δ => ∃ x0 found, δ = [x0, .sh (.str a), .ow (.lst (found.map nodeD)), .un, .un, .un] ∧ found ++ r.filterMap (beside a) = T.adj a) ?_ ?_ T.edges _ ⟨_, [], rfl, rfl⟩
  · rintro δ ⟨x0, found, rfl, hf⟩
    rw [List.filterMap_nil, List.append_nil] at hf
    subst hf
    refine ⟨srtb2 _, ?_⟩
    show retTg .nw (.lst (sortD ((T.adj a).map nodeD))) = true ∧ q (.lst (sortD ((T.adj a).map nodeD)))
    rw [sort2_map]
    exact ⟨immA_map (fun _ => rfl) _, h⟩
  · rintro ed r δ nx ⟨x0, found, rfl, hf⟩ hnx
    have small : found.length ≤ 1000 := by
      have := hs.adj a
      rw [← hf, List.length_append] at this
      omega
    refine ⟨rfl, ite2D (fun c => ?_) (fun c => ?_)⟩
    · have c := of_decide_eq_true c
      refine ⟨show 2 ≤ sizeLine by decide, by rw [List.length_map]; exact lt1000 small, hnx _ ⟨_, found ++ [(ed.2.1, ed.2.2)], by rw [List.map_append] <;> rfl, ?_⟩⟩
      rw [List.filterMap_cons, beside1 c] at hf
      rw [← hf]
      simp
    · have c := of_decide_eq_false c
      refine ite2D (fun c2 => ?_) (fun c2 => ?_)
      · have c2 := of_decide_eq_true c2
        refine ⟨show 2 ≤ sizeLine by decide, by rw [List.length_map]; exact lt1000 small, hnx _ ⟨_, found ++ [(ed.1, ed.2.2)], by rw [List.map_append] <;> rfl, ?_⟩⟩
        rw [List.filterMap_cons, beside2 c c2] at hf
        rw [← hf]
        simp
      · have c2 := of_decide_eq_false c2
        refine hnx _ ⟨_, found, rfl, ?_⟩
        rw [List.filterMap_cons, beside3 c c2] at hf
        exact hf
end DL

set_option Elab.async false
set_option linter.all false
set_option maxRecDepth 100000
/-! Own error classes: over a class without an __init__ of its own, over ValueError; made with one or two values. -/
namespace DL
open PySem PySem.Spec PyProof.Rows L2

/-! ### what the text must say of such classes -/
def oexB (K : PySem.W.Frag) (C : Addr) : Bool := match K.lookup C with
  | some ⟨.type "type", _, .cls cd, sl⟩ => (match cd.mro, sl.toList with
    | .ref C' :: bm, [_, _, _, _, some (.builtin n), _] => decide (C' = C) && (decide (n = "ValueError.__new__") && (!cd.hasDel && (cd.hasDict && PySem.HandSPX.refsVE bm)))
    | _, _ => false)
  | _ => false
theorem and2 {a b : Bool} (h : (a && b) = true) : a = true ∧ b = true := by
  rw [Bool.and_eq_true] at h
  exact h
theorem oexB_ok {K : PySem.W.Frag} {C : Addr} (h : oexB K C = true) : ∃ nm q N bs bm sn sub ab col dd k0 k1 k2 k3 k5, K.lookup C = some (excClassObj nm q C N bs bm true sn sub ab col dd k0 k1 k2 k3 k5 "ValueError.__new__") ∧ PySem.HandSPX.refsVE bm = true := by
  unfold oexB at h
  split at h
  · rename_i dd cd sl lk
    split at h
    · rename_i C' bm k0 k1 k2 k3 n k5 em es
      obtain ⟨e1, h⟩ := and2 h
      obtain ⟨e2, h⟩ := and2 h
      obtain ⟨e3, h⟩ := and2 h
      obtain ⟨e4, e5⟩ := and2 h
      have e1 := of_decide_eq_true e1
      have e2 := of_decide_eq_true e2
      obtain ⟨nm, bs, mro, ns, qn, hd, sn, sub, ab, col, del⟩ := cd
      obtain ⟨l⟩ := sl
      dsimp only at em es e3 e4
      have e3 : del = false := by
        cases del
        · rfl
        · cases e3
      subst e1 e2 e3 e4 em es
      exact ⟨nm, qn, ns, bs, bm, sn, sub, ab, col, dd, k0, k1, k2, k3, k5, lk, e5⟩
    · cases h
  · cases h
def eqOO (a b : Option (Option Value)) : Bool := decide (a = b)
/-- the class x is such a one, with these attributes, over T -/
def xcB (x T : Str) (K : PySem.W.Frag) : Bool :=
  oexB K (He.ga K x) && (eqOO (PySem.W.findIn K (.ref (He.ga K x)) "__setattr__") (some (some (.builtin "object.__setattr__"))) && (decide (PySem.W.typeIn K (.ref (He.ga K x)) = some (.type "type")) && (PySem.W.keepIn K (.ref (He.ga K x)) &&
    (xfB K (He.ga K x) && (decide (PySem.W.exmOne K (.ref (He.ga K x)) (.ref (He.ga K T)) = some true) && (decide (PySem.W.exmOne K (.ref (He.ga K x)) (.ref (He.ga K x)) = some true) && (PySem.W.readsIn K (He.ga K T) (.type "type") && (eqOO (PySem.W.specialIn K (.ref (He.ga K T)) "__getattribute__") (some (some (.builtin "type.__getattribute__"))) &&
      (match PySem.W.findCls K (.ref (He.ga K T)) (.type "type") "__init__" with
        | some (.val (.builtin n)) => decide (n = "ValueError.__init__")
        | _ => false)))))))))
structure XC (K : PySem.W.Frag) (x T : Str) : Prop where
  oex : OexC K (He.ga K x)
  xf : XfC K (He.ga K x)
  exm : PySem.W.exmOne K (.ref (He.ga K x)) (.ref (He.ga K T)) = some true
  exs : PySem.W.exmOne K (.ref (He.ga K x)) (.ref (He.ga K x)) = some true
  rd : PySem.W.readsIn K (He.ga K T) (.type "type") = true
  sp : PySem.W.specialIn K (.ref (He.ga K T)) "__getattribute__" = some (some (.builtin "type.__getattribute__"))
  fi : PySem.W.findCls K (.ref (He.ga K T)) (.type "type") "__init__" = some (.val (.builtin "ValueError.__init__"))
theorem xcB_ok {K : PySem.W.Frag} {x T : Str} (h : xcB x T K = true) : XC K x T := by
  obtain ⟨h1, h⟩ := and2 h
  obtain ⟨h2, h⟩ := and2 h
  obtain ⟨h3, h⟩ := and2 h
  obtain ⟨h4, h⟩ := and2 h
  obtain ⟨h5, h⟩ := and2 h
  obtain ⟨h6, h⟩ := and2 h
  obtain ⟨h6', h⟩ := and2 h
  obtain ⟨h7, h⟩ := and2 h
  obtain ⟨h8, h9⟩ := and2 h
  have xf := xfB_ok h5
  refine ⟨⟨oexB_ok h1, of_decide_eq_true h2, xf.exC, of_decide_eq_true h3, h4⟩, xf, of_decide_eq_true h6, of_decide_eq_true h6', h7, of_decide_eq_true h8, ?_⟩
  split at h9
  · rename_i n e
    rw [e, of_decide_eq_true h9]
  · cases h9

/-! ### T.__init__(self, ..) -/
section
variable {X : Cx} {e : Expr} {es : List Expr} {ta : TA} {y : Str} {C : Addr} {p1 p2 pos : Pos}
theorem pe_binit {pl : Sem Bool} (hg : Gl X y) (hm : X.mg y = some (.ref C)) (rd : PySem.W.readsIn X.K C (.type "type") = true) (sp : PySem.W.specialIn X.K (.ref C) "__getattribute__" = some (some (.builtin "type.__getattribute__")))
    (fi : PySem.W.findCls X.K (.ref C) (.type "type") "__init__" = some (.val (.builtin "ValueError.__init__"))) (ha : PA X (e :: es) ta) (hdb : (y == ("__debug__" : Str)) = false := by decide)
    (hc : eval (.Call (.Attribute (.Name y p1) "__init__" p2) (e :: es) [] pos) X.env = (do
      let b ← eval (.Name y p1) X.env
      standAt p2.atName
      let (f, fs) ← holding [b] (getMethod b "__init__" pl)
      callWith pos f fs (backTo pos (starEach (e :: es) X.env)) (backToKw pos (keywordEach [] X.env))) := by rfl)
    (he : starEach (e :: es) X.env = (false, eval e X.env) :: starEach es X.env := by rfl) (hpl : (backTo pos (starEach es X.env)).any (·.1) = false := by rfl) :
    PE X (.Call (.Attribute (.Name y p1) "__init__" p2) (e :: es) [] pos) (tVeI X.K ta) := by
  refine ⟨fun pins s σ H Q I h => ?_⟩
  refine PySem.W.methodCall_KW (ld_glob I hg hm ?_ hdb) hc
  refine PySem.W.method_cls I.kIn sp (PySem.W.cls_value I.kIn rd fi (by decide +kernel) ?_)
  show wpAny _ _ (callWith pos (Value.builtin "ValueError.__init__") [] (backTo pos (starEach (e :: es) X.env)) []) _ _ _
  refine PyProof.Rows.callWith_method1 (thn (ha.run pos pins _ σ H _ (I.tok _) h) fun us s1 ⟨vs, H1, I1, rv, a, D, ws, ev, small, T, ea, q⟩ => ?_) he hpl
  subst ev
  cases rv with
  | @cons _ u0 _ ur r0 rr =>
    have eu : u0 = Value.ref a := r0
    subst eu
    refine oinit_ok T I1 ea ?_ fun s2 J => ⟨.non, H1, J, rfl, q⟩
    rw [← Paired.length rr, sizeLine_eq]
    omega
end
end DL

set_option Elab.async false
set_option linter.all false
set_option maxRecDepth 100000
/-! The making of own errors: __init__ with one field, with two; raise. -/
namespace DL
open PySem PySem.Spec PyProof.Rows L2

/-! ### f'..' of parts that are short -/
def FldOk (v : V) : Prop := (∃ y : Str, v = .str y ∧ y.length ≤ 1000) ∨ ∃ i : Int, v = .int i ∧ i.natAbs.log2 < 1920
def PartOk (σ : St) (t : TE) : Prop := ∀ H Q, (∀ y : Str, y.length ≤ 2000 → Q (.str y) H) → t σ H Q
theorem part_str {σ : St} {z : Str} (h : z.length ≤ 2000) : PartOk σ (tC (.str z)) := fun H Q q => q z h
theorem part_fmt {σ : St} {i : Nat} {v : V} (e : σ[i]? = some (some v)) (h : FldOk v) : PartOk σ (tFmt (tVar i)) := fun H Q q => by
  refine ⟨v, e, ?_⟩
  rcases h with ⟨y, rfl, hy⟩ | ⟨i, rfl, hi⟩
  · exact .inl ⟨y, rfl, (by rw [sizeLine_eq]; omega), q y (by omega)⟩
  · refine .inr ⟨i, rfl, hi, q _ ?_⟩
    have := int_text_len_1921 hi
    show (Str.ofString (toString i)).length ≤ 2000
    omega
theorem tJs_ok {σ : St} {H : Hp} {Q : Str → Hp → Prop} (q : ∀ out, Q out H) : ∀ {ts : List TE} {acc : Str}, (∀ t ∈ ts, PartOk σ t) → acc.length + 2000 * ts.length ≤ 100000 → tJs ts acc σ H Q
  | [], acc, _, _ => q acc
  | t :: ts, acc, h, hl => by
    rw [List.length_cons] at hl
    refine h t (by simp) H _ fun y hy => ?_
    have e : (acc ++ y).length = acc.length + y.length := Str.length_append acc y
    refine ⟨y, rfl, ?_, tJs_ok q (fun t' ht => h t' (List.mem_cons_of_mem _ ht)) (by omega)⟩
    rw [e, sizeLine_eq]
    omega
/-! ### __init__ -/
def tInit1 (K : PySem.W.Frag) (f1 : Str) (ts : List TE) : TS := fun D σ H => tVeI K (fun σ H Q => tVar 0 σ H fun x H1 => tJs ts Str.empty σ H1 fun out H2 => Q [x, .str out] H2) σ H fun _ H1 => tOst K f1 (tVar 0) (tVar 1) D σ H1
def tInit2 (K : PySem.W.Frag) (f1 f2 : Str) (ts : List TE) : TS := fun D σ H => tVeI K (fun σ H Q => tVar 0 σ H fun x H1 => tJs ts Str.empty σ H1 fun out H2 => Q [x, .str out] H2) σ H fun _ H1 => tOst K f1 (tVar 0) (tVar 1) { D with nx := fun σ2 H2 => tOst K f2 (tVar 0) (tVar 2) D σ2 H2 } σ H1
/-- what stands behind it -/
def init1 (C : Addr) (f1 : Str) : Sp := fun vs H Q _ => ∃ a v1, vs = [.ref a, v1] ∧ FldOk v1 ∧ H a = some (exo a C none) ∧ ∀ d, H d = none → d ≠ a → Q .non (upd (upd H d (exd d [(f1, v1)])) a (exo a C (some d)))
def init2 (C : Addr) (f1 f2 : Str) : Sp := fun vs H Q _ => ∃ a v1 v2, vs = [.ref a, v1, v2] ∧ FldOk v1 ∧ FldOk v2 ∧ H a = some (exo a C none) ∧
  ∀ d, H d = none → d ≠ a → Q .non (upd (upd (upd H d (exd d [(f1, v1)])) a (exo a C (some d))) d (exd d [(f2, v2), (f1, v1)]))
theorem init1_read {K : PySem.W.Frag} {C : Addr} {f1 : Str} {ts : List TE} {D : Ends} {a : Addr} {v1 : V} {σ : St} {H : Hp} (T : OexC K C) (n1 : PySem.W.findIn K (.ref C) f1 = some none)
    (e0 : σ[0]? = some (some (.ref a))) (e1 : σ[1]? = some (some v1)) (hp : ∀ t ∈ ts, PartOk σ t) (hl : ts.length ≤ 10) (ha : H a = some (exo a C none))
    (q : ∀ d, H d = none → d ≠ a → D.nx σ (upd (upd H d (exd d [(f1, v1)])) a (exo a C (some d)))) : tInit1 K f1 ts D σ H := by
  refine ⟨_, e0, tJs_ok (fun out => ?_) hp (by show 0 + 2000 * ts.length ≤ 100000; omega)⟩
  refine ⟨a, C, [.str out], rfl, Nat.le_of_ble_eq_true rfl, T, ha, ?_⟩
  exact ⟨v1, e1, _, e0, a, C, rfl, T, n1, .inl ⟨ha, fun d hd ne => q d hd ne⟩⟩
theorem init2_read {K : PySem.W.Frag} {C : Addr} {f1 f2 : Str} {ts : List TE} {D : Ends} {a : Addr} {v1 v2 : V} {σ : St} {H : Hp} (T : OexC K C) (n1 : PySem.W.findIn K (.ref C) f1 = some none) (n2 : PySem.W.findIn K (.ref C) f2 = some none)
    (e0 : σ[0]? = some (some (.ref a))) (e1 : σ[1]? = some (some v1)) (e2 : σ[2]? = some (some v2)) (hp : ∀ t ∈ ts, PartOk σ t) (hl : ts.length ≤ 10) (ha : H a = some (exo a C none))
    (q : ∀ d, H d = none → d ≠ a → D.nx σ (upd (upd (upd H d (exd d [(f1, v1)])) a (exo a C (some d))) d (exd d [(f2, v2), (f1, v1)]))) : tInit2 K f1 f2 ts D σ H := by
  refine ⟨_, e0, tJs_ok (fun out => ?_) hp (by show 0 + 2000 * ts.length ≤ 100000; omega)⟩
  refine ⟨a, C, [.str out], rfl, Nat.le_of_ble_eq_true rfl, T, ha, ?_⟩
  refine ⟨v1, e1, _, e0, a, C, rfl, T, n1, .inl ⟨ha, fun d hd ne => ?_⟩⟩
  refine ⟨v2, e2, _, e0, a, C, rfl, T, n2, .inr ⟨d, [(f1, v1)], upd_same .., ?_, Nat.le_of_ble_eq_true rfl, q d hd ne⟩⟩
  rw [upd_ne ne, upd_same]
end DL

set_option Elab.async false
set_option linter.all false
set_option maxRecDepth 100000
namespace DL
open PySem PySem.Spec PyProof.Rows L2

/-! ### raise -/
def initN (C : Addr) : List Str → Sp
  | [f1] => init1 C f1
  | [f1, f2] => init2 C f1 f2
  | _ => fun _ _ _ _ => False
/-- the error class x, over T, made with these fields -/
structure Xal (P : Program) (w : World) (K : PySem.W.Frag) (mg : Str → Option Value) (base : Heap) (x T : Str) (fs : List Str) : Prop where
  xc : XC K x T
  g : mg x = some (.ref (He.ga K x))
  gT : mg T = some (.ref (He.ga K T))
  no : ∀ f ∈ fs, PySem.W.findIn K (.ref (He.ga K x)) f = some none
  make : ∃ fI fd ps, PySem.W.findIn K (.ref (He.ga K x)) "__init__" = some (some (.ref fI)) ∧ PySem.W.typeIn K (.ref fI) = some (.type "function") ∧ Binds K fd ps [] ∧ FnOk P w K mg base CX0 1 fI fd ps (initN (He.ga K x) fs)
def FldD : D → V → Prop
  | .str y, v => v = .str y ∧ y.length ≤ 1000
  | .int i, v => v = .int i ∧ i.natAbs.log2 < 1920
  | _, _ => False
theorem FldD.ok {d : D} {v : V} (h : FldD d v) : FldOk v := by
  cases d with
  | str y => exact .inl ⟨y, h.1, h.2⟩
  | int i => exact .inr ⟨i, h.1, h.2⟩
  | _ => exact h.elim
theorem FldD.rep {K : PySem.W.Frag} {H Z : Hp} {d : D} {v u : V} (h : FldD d v) (r : BRep K H Z d u) : u = v := by
  cases d with
  | str y => exact (show u = .str y from r).trans h.1.symm
  | int i => exact (show u = .int i from r).trans h.1.symm
  | _ => exact h.elim
def sRaise1 (x f1 : Str) (t : AT) : ST := fun E δ => t (fun y => E.xe y δ) δ fun ds => ∃ d1 v1, ds = [d1] ∧ FldD d1 v1 ∧ E.xe ⟨x, [(f1, v1)]⟩ δ
def sRaise2 (x f1 f2 : Str) (t : AT) : ST := fun E δ => t (fun y => E.xe y δ) δ fun ds => ∃ d1 d2 v1 v2, ds = [d1, d2] ∧ FldD d1 v1 ∧ FldD d2 v2 ∧ E.xe ⟨x, [(f2, v2), (f1, v1)]⟩ δ
theorem same_made {H : Hp} {a d : Addr} {o1 o2 o3 o4 o5 : HO} (ha : H a = none) (hd : H d = none) : Same H (upd (del (upd (upd (upd (upd H a o1) d o2) a o3) d o4) a) d o5) := fun b o e => by
  have na : b ≠ a := ne_of_none e ha
  have nd : b ≠ d := ne_of_none e hd
  rw [upd_ne nd, del_ne na, upd_ne nd, upd_ne na, upd_ne nd, upd_ne na]
  exact e
theorem same_made1 {H : Hp} {a d : Addr} {o1 o2 o3 o5 : HO} (ha : H a = none) (hd : H d = none) : Same H (upd (del (upd (upd (upd H a o1) d o2) a o3) a) d o5) := fun b o e => by
  have na : b ≠ a := ne_of_none e ha
  have nd : b ≠ d := ne_of_none e hd
  rw [upd_ne nd, del_ne na, upd_ne na, upd_ne nd, upd_ne na]
  exact e
section
variable {X : Cx} {W : WX} {e : Expr} {es : List Expr} {t : AT} {x T f1 f2 : Str} {p pos pos' : Pos}
theorem ds_raise2 (Z : Xal X.prog X.w X.K X.mg X.base x T [f1, f2]) (hc : X.calm = true) (hr : Room 2 X.A) (tk : Takes X W) (hg : Gl X x) (ha : DA X W (e :: es) t) (hdb : (x == ("__debug__" : Str)) = false := by decide)
    (he : starEach (e :: es) X.env = (false, eval e X.env) :: starEach es X.env := by rfl) (hpl : (backTo pos (starEach es X.env)).any (·.1) = false := by rfl) : DS X W (.Raise (some (.Call (.Name x p) (e :: es) [] pos)) none pos') (sRaise2 x f1 f2 t) := by
  obtain ⟨fI, fd, ps, iC, tI, b, F⟩ := Z.make
  refine PS.imp (ps_raise hc tk (pmk_oex (dvs := []) Z.xc.oex iC tI F hr b .nil (fun _ _ _ _ _ _ _ z => z.elim) hg Z.g ha hdb he hpl)) fun N σ H ⟨B, δ, E, r, h, nx, rt, bk, ct, xe⟩ => ?_
  refine ⟨B, δ, _, _, r, h, fun vs H1 ds s1 ra => ?_, fun cls dx H' y s xr hx => xe cls dx δ σ H' y (r.ext s) (DRel.frz_ext s) xr hx⟩
  rintro ⟨d1, d2, v1, v2, rfl, h1, h2, hx⟩
  obtain ⟨u1, u2, rfl, r1, r2⟩ := ra.two
  have e1 := h1.rep r1
  have e2 := h2.rep r2
  subst e1 e2
  refine ⟨Nat.le_of_ble_eq_true rfl, fun a na => ⟨a, u1, u2, rfl, h1.ok, h2.ok, upd_same .., fun d nd ne => ⟨rfl, d, _, ?_, upd_same .., ?_, ?_⟩⟩⟩
  · rw [upd_ne (Ne.symm ne), upd_same]
  · rw [upd_ne ne] at nd
    exact nd
  · have nd' : H1 d = none := by
      rw [upd_ne ne] at nd
      exact nd
    have s2 := s1.trans (same_made (o1 := exo a (He.ga X.K x) none) (o2 := exd d [(f1, u1)]) (o3 := exo a (He.ga X.K x) (some d)) (o4 := exd d [(f2, u2), (f1, u1)]) (o5 := .xd [(f2, u2), (f1, u1)]) na nd')
    exact xe _ _ δ σ _ ⟨x, [(f2, u2), (f1, u1)]⟩ (r.ext s2) (DRel.frz_ext s2) ⟨rfl, d, rfl, upd_same ..⟩ hx
theorem ds_raise1 (Z : Xal X.prog X.w X.K X.mg X.base x T [f1]) (hc : X.calm = true) (hr : Room 2 X.A) (tk : Takes X W) (hg : Gl X x) (ha : DA X W (e :: es) t) (hdb : (x == ("__debug__" : Str)) = false := by decide)
    (he : starEach (e :: es) X.env = (false, eval e X.env) :: starEach es X.env := by rfl) (hpl : (backTo pos (starEach es X.env)).any (·.1) = false := by rfl) : DS X W (.Raise (some (.Call (.Name x p) (e :: es) [] pos)) none pos') (sRaise1 x f1 t) := by
  obtain ⟨fI, fd, ps, iC, tI, b, F⟩ := Z.make
  refine PS.imp (ps_raise hc tk (pmk_oex (dvs := []) Z.xc.oex iC tI F hr b .nil (fun _ _ _ _ _ _ _ z => z.elim) hg Z.g ha hdb he hpl)) fun N σ H ⟨B, δ, E, r, h, nx, rt, bk, ct, xe⟩ => ?_
  refine ⟨B, δ, _, _, r, h, fun vs H1 ds s1 ra => ?_, fun cls dx H' y s xr hx => xe cls dx δ σ H' y (r.ext s) (DRel.frz_ext s) xr hx⟩
  rintro ⟨d1, v1, rfl, h1, hx⟩
  obtain ⟨u1, rfl, r1⟩ := ra.one
  have e1 := h1.rep r1
  subst e1
  refine ⟨Nat.le_of_ble_eq_true rfl, fun a na => ⟨a, u1, rfl, h1.ok, upd_same .., fun d nd ne => ⟨rfl, d, [(f1, u1)], upd_same .., ?_, ?_, ?_⟩⟩⟩
  · rw [upd_ne ne, upd_same]
  · rw [upd_ne ne] at nd
    exact nd
  · have nd' : H1 d = none := by
      rw [upd_ne ne] at nd
      exact nd
    have s2 := s1.trans (same_made1 (o1 := exo a (He.ga X.K x) none) (o2 := exd d [(f1, u1)]) (o3 := exo a (He.ga X.K x) (some d)) (o5 := .xd [(f1, u1)]) na nd')
    exact xe _ _ δ σ _ ⟨x, [(f1, u1)]⟩ (r.ext s2) (DRel.frz_ext s2) ⟨rfl, d, rfl, upd_same ..⟩ hx
end
end DL

set_option Elab.async false
set_option linter.all false
set_option maxRecDepth 100000
/-! try .. except T as n, one class that may come; n.f, isinstance(n, C) in the suite. -/
namespace DL
open PySem PySem.Spec PyProof.Rows L2

/-! ### isinstance(n, C), C the very class -/
def rIsC (K : PySem.W.Frag) (C a : Addr) : List V → Hp → VK → Prop := fun xs H Q => xs = [.ref a, .ref C] ∧ Q (.bl true) H
theorem call_isC {X : Cx} {a C : Addr} {oe : Obj} {pn : List (Addr × Obj)} (hz : oe.cls = .ref C) : CallR (X.suite a ((a, oe) :: pn)) (.builtin "isinstance") (rIsC X.K C a) := by
  rintro pins s σ H xs us Q I r ⟨rfl, q⟩
  obtain ⟨u1, u2, rfl, r1, r2⟩ := vals2 r
  cases (show u1 = Value.ref a from r1)
  cases (show u2 = Value.ref C from r2)
  obtain ⟨hget, _⟩ := I.pin (a, oe) (List.mem_append.mpr (.inl List.mem_cons_self))
  refine PyProof.Rows.call_isinstance_of ?_ (fun z => nomatch z)
  unfold Builtin.«isinstance.nested»
  refine wpAny_bind (m := typeOf (.ref a)) (wpAny_typeOf_ref hget ?_)
  rw [hz]
  show wpAny _ _ (if (Value.ref C == Value.ref C) = true then _ else _) _ _ s
  rw [if_pos (by exact beq_self_eq_true _)]
  have fin : EP (X.suite a ((a, oe) :: pn)) pins σ Q (.bool true) s := ⟨.bl true, H, I, rfl, q⟩
  repeat (first | refine wpAny_pure ?_ | refine wpAny_rule ?_ | refine wpAny_bind ?_)
  exact fin

/-! ### the suite's expressions -/
def vD : V → Option D
  | .int i => some (.int i)
  | .str z => some (.str z)
  | _ => none
theorem vD_rep {K : PySem.W.Frag} {H : Hp} {M : Option Hp} {v : V} {c : D} (h : vD v = some c) : Rep K H M c v := by
  cases v with
  | int i =>
    cases h
    exact rfl
  | str z =>
    cases h
    exact rfl
  | _ => cases h
def eXf (i : Nat) (f : Str) (a d : Addr) : ET := fun _ δ q => match getS δ i with
  | .ex x a' d' => a' = a ∧ d' = d ∧ ∃ v c, x.fs.lookup f = some v ∧ vD v = some c ∧ q .fz c
  | _ => False
def eIsX (i : Nat) (a d : Addr) : ET := fun _ δ q => match getS δ i with
  | .ex _ a' d' => a' = a ∧ d' = d ∧ q .fz (.bl true)
  | _ => False
theorem ex_at {K : PySem.W.Frag} {B : Bs} {H : Hp} {δ : DSt} {σ : St} {i : Nat} {x : DX} {a d : Addr} (r : DRel K B H δ σ) (h : getS δ i = .ex x a d) : σ[i]? = some (some (.ref a)) ∧ H d = some (.xd x.fs) := by
  obtain ⟨z1, z2⟩ := r.sl i _ (getS_some h (fun z => nomatch z))
  exact ⟨z1, (cut_some.mp z2).2⟩
section
variable {X : Cx} {W : WX} {a C d : Addr} {oe : Obj} {pn : List (Addr × Obj)} {n f y : Str} {p p1 p2 pos : Pos}
theorem de_xf (i : Nat) (T : XfC X.K C) (hno : PySem.W.findIn X.K (.ref C) f = some none) (hz : Zc (.ref C) (some d) oe) (hf : ∃ vs, oe.data = .fields vs) (he : PE (X.suite a ((a, oe) :: pn)) (.Name n p) (tVar i))
    (hb : attributeBase (.Name n p) f X.env (eval (.Name n p) X.env) = eval (.Name n p) X.env := by rfl) : DE (X.suite a ((a, oe) :: pn)) W (.Attribute (.Name n p) f pos) (eXf i f a d) :=
  PE.imp (pe_xf T hno hz hf he hb) fun σ H Q => by
    rintro ⟨B, δ, e, q, r, h, ok, bad⟩
    unfold eXf at h
    split at h
    · rename_i x a' d' hs
      obtain ⟨rfl, rfl, v, c, l, hv, hq⟩ := h
      obtain ⟨e1, e2⟩ := ex_at r hs
      exact ⟨_, e1, rfl, rfl, d', x.fs, v, rfl, e2, l, ok v H .fz c (Same.refl H) (vD_rep hv) hq⟩
    · exact h.elim
theorem de_isX (i : Nat) (hz : Zc (.ref C) (some d) oe) (hg : Gl X "isinstance") (hm : X.mg "isinstance" = none) (hg2 : Gl X y) (hm2 : X.mg y = some (.ref C)) (he : PE (X.suite a ((a, oe) :: pn)) (.Name n p) (tVar i)) (hdb : (y == ("__debug__" : Str)) = false := by decide)
    (hs : starEach [.Name n p, .Name y p2] X.env = (false, eval (.Name n p) X.env) :: starEach [.Name y p2] X.env := by rfl) : DE (X.suite a ((a, oe) :: pn)) W (.Call (.Name "isinstance" p1) [.Name n p, .Name y p2] [] pos) (eIsX i a d) :=
  PE.imp (pe_callB (call_isC hz.1) hg hm bt_isinstance (pa_cons he (pa_cons (pe_glob (v := .ref C) hg2 hm2 rfl hdb) pa_nil) hs) (by decide) (by decide) hs) fun σ H Q => by
    rintro ⟨B, δ, e, q, r, h, ok, bad⟩
    unfold eIsX at h
    split at h
    · rename_i x a' d' hs
      obtain ⟨rfl, rfl, hq⟩ := h
      obtain ⟨e1, e2⟩ := ex_at r hs
      exact ⟨_, e1, rfl, ok _ H .fz (.bl true) (Same.refl H) rfl hq⟩
    · exact h.elim
end

/-! ### try -/
def sTry (y : Str) (i : Nat) (tb : ST) (ts : Addr → Addr → ST) : ST := fun E δ =>
  tb { E with xe := fun x δ' => x.cls = y ∧ ∀ a d, ts a d { nx := fun δ2 => E.nx (setS δ2 i .un), rt := E.rt, bk := fun δ2 => E.bk (setS δ2 i .un), ct := fun δ2 => E.ct (setS δ2 i .un), lent := E.lent } (setS δ' i (.ex x a d)) } δ
section
variable {X : Cx} {W : WX} {T y n : Str} {i : Nat} {body suite : List Stmt} {b0 : Stmt} {np pos pos' : Pos} {tb : ST} {ts : Addr → Addr → ST}
theorem ds_try (i : Nat) (hs : X.stack = X.env :: X.outer) (hf : X.env.frame = some X.env.locals) (hN : X.N.Nodup) (tk : Takes X W) (hg : Gl X T) (hT : X.mg T = some (.ref (He.ga X.K T)))
    (hx : PySem.W.exmOne X.K (.ref (He.ga X.K y)) (.ref (He.ga X.K T)) = some true)
    (hb : ∀ (V : WX) (pn : List (Addr × Obj)) (xe : Value → Shared → Prop), Takes (X.tr pn xe) V → PassesOwn (model X.prog X.w) X.A X.env xe → DSs (X.tr pn xe) V body tb)
    (hsu : ∀ (a d : Addr) (oe : Obj) (pn : List (Addr × Obj)), Zc (.ref (He.ga X.K y)) (some d) oe → (∃ vs, oe.data = .fields vs) → DSs (X.suite a ((a, oe) :: pn)) W0 (b0 :: suite) (ts a d))
    (hi : X.N[i]? = some n := by rfl) (hln : X.env.kindOf n = some .local := by rfl) (hdb : (T == ("__debug__" : Str)) = false := by decide) :
    DS X W (.Try body [.ExceptHandler (some (.Name T np)) (some n) (b0 :: suite) pos'] [] [] pos) (sTry y i tb ts) := by
  refine PS.imp (ps_try_as (i := i) (c := .ref (He.ga X.K T)) (tb := fun V => LiftS X.K V tb) (Wout := W)
    (ts := fun a cls d => fun N σ H => cls = .ref (He.ga X.K y) ∧ ∃ d', d = some d' ∧ LiftS X.K W0 (ts a d') N σ H) hs hf hN hi hln ⟨hg, hdb, .inl hT⟩ tk hb fun a oe cls d pn hz hfl => ?_) fun N σ H ⟨B, δ, E, r, h, nx, rt, bk, ct, xe⟩ => ?_
  · refine ⟨fun pins s σ H D I q => ?_⟩
    obtain ⟨rfl, d', rfl, q⟩ := q
    exact (hsu a d' oe pn hz hfl).run pins s σ H D I q
  · refine ⟨B, δ, _, r, h, nx, rt, bk, ct, fun cls dx δ' σ' H' x r' s' xr hx' => ?_⟩
    obtain ⟨ey, hx'⟩ := hx'
    obtain ⟨ec, d, rfl, hd⟩ := xr
    subst ey
    refine ⟨true, by rw [ec]; exact hx, fun _ a na => ⟨ec, d, rfl, ?_⟩, fun z => nomatch z⟩
    have free : ¬ Hid B (setS δ' i (.ex x a d)) (σ'.set i (some (.ref a))) d := fun z => by
      rcases hid_set z with z | ⟨_, z, _⟩
      · exact r'.noXd hd z
      · cases z
    obtain ⟨r2, s2⟩ := r'.put (i := i) (s := .ex x a d) (v := .ref a) (Same.refl H') (fun _ => False) (fun _ z => z.elim) (fun _ _ z => nomatch z) ⟨rfl, cut_some.mpr ⟨free, hd⟩⟩
    · refine ⟨B, setS δ' i (.ex x a d), _, r2, hx' a d, fun δ3 σ3 H3 r3 s3 z => ?_, rt, fun δ3 σ3 H3 r3 s3 z => ?_, fun δ3 σ3 H3 r3 s3 z => ?_, fun _ _ _ _ _ _ _ _ _ z => z.elim⟩
      · obtain ⟨r4, s4⟩ := r3.drop1 (i := i)
        exact nx _ _ _ r4 ((s'.trans s2).trans (s3.trans s4)) z
      · obtain ⟨r4, s4⟩ := r3.drop1 (i := i)
        exact bk _ _ _ r4 ((s'.trans s2).trans (s3.trans s4)) z
      · obtain ⟨r4, s4⟩ := r3.drop1 (i := i)
        exact ct _ _ _ r4 ((s'.trans s2).trans (s3.trans s4)) z
end
end DL

set_option Elab.async false
set_option linter.all false
set_option maxRecDepth 100000
/-! a new list never lies within itself -/
namespace DL
open PySem PySem.Spec PyProof.Rows L2
mutual
def D.siz : D → Nat
  | .lst ds => sizA ds + 1
  | .tup ds => sizA ds + 1
  | .dic kds => sizK kds + 1
  | _ => 1
def sizA : List D → Nat
  | [] => 0
  | d :: ds => d.siz + sizA ds
def sizK : List (Key × D) → Nat
  | [] => 0
  | (_, d) :: ds => d.siz + sizK ds
end
theorem D.siz_pos (d : D) : 0 < d.siz := by cases d <;> simp [D.siz]
theorem kvV_inj : ∀ {a b : List (List Key × Key)}, kvV a = kvV b → a = b
  | [], [], _ => rfl
  | [], _ :: _, h => nomatch h
  | _ :: _, [], h => nomatch h
  | (k, v) :: a, (l, w) :: b, h => by
    have h : (k, kV v) :: kvV a = (l, kV w) :: kvV b := h
    obtain ⟨h1, h2⟩ := List.cons.inj h
    obtain ⟨h3, h4⟩ := Prod.mk.inj h1
    rw [h3, kV_inj h4, kvV_inj h2]
section
variable {K : PySem.W.Frag} {H B : Hp}
mutual
theorem Rep.fun_ : ∀ (d e : D) (v : V), Rep K H (some B) d v → Rep K H (some B) e v → d = e
  | .non, e, v, h, g => by cases (show v = .non from h); cases e <;> first | rfl | (cases (show (V.non = _) from g)) | (obtain ⟨a, vs, z, _⟩ := g; cases z) | (obtain ⟨a, z, _⟩ := g; cases z)
  | .bl b, e, v, h, g => by cases (show v = .bl b from h); cases e <;> first | (cases (show (V.bl b = _) from g) <;> rfl) | (obtain ⟨a, vs, z, _⟩ := g; cases z) | (obtain ⟨a, z, _⟩ := g; cases z)
  | .int b, e, v, h, g => by cases (show v = .int b from h); cases e <;> first | (cases (show (V.int b = _) from g) <;> rfl) | (obtain ⟨a, vs, z, _⟩ := g; cases z) | (obtain ⟨a, z, _⟩ := g; cases z)
  | .str b, e, v, h, g => by cases (show v = .str b from h); cases e <;> first | (cases (show (V.str b = _) from g) <;> rfl) | (obtain ⟨a, vs, z, _⟩ := g; cases z) | (obtain ⟨a, z, _⟩ := g; cases z)
  | .lst ds, e, v, h, g => by
    obtain ⟨a, vs, rfl, ⟨_, z⟩, r⟩ := h
    cases e with
    | lst es =>
      obtain ⟨a', vs', e, ⟨_, z'⟩, r'⟩ := g
      cases e
      rw [z] at z'
      cases z'
      rw [RepA.fun_ ds es vs r r']
    | tup es =>
      obtain ⟨a', vs', e, ⟨_, z', _⟩, r'⟩ := g
      cases e
      rw [z] at z'
      cases z'
    | dic es =>
      obtain ⟨a', vs', e, ⟨_, z'⟩, r'⟩ := g
      cases e
      rw [z] at z'
      cases z'
    | ktp es =>
      obtain ⟨a', e, z'⟩ := g
      cases e
      rw [z] at z'
      cases z'
    | dtp es =>
      obtain ⟨a', e, _, z'⟩ := g
      cases e
      rw [z] at z'
      cases z'
    | _ => cases (show (V.ref a = _) from g)
  | .tup ds, e, v, h, g => by
    obtain ⟨a, vs, rfl, ⟨_, z, _⟩, r⟩ := h
    cases e with
    | lst es =>
      obtain ⟨a', vs', e, ⟨_, z'⟩, r'⟩ := g
      cases e
      rw [z] at z'
      cases z'
    | tup es =>
      obtain ⟨a', vs', e, ⟨_, z', _⟩, r'⟩ := g
      cases e
      rw [z] at z'
      cases z'
      rw [RepA.fun_ ds es vs r r']
    | dic es =>
      obtain ⟨a', vs', e, ⟨_, z'⟩, r'⟩ := g
      cases e
      rw [z] at z'
      cases z'
    | ktp es =>
      obtain ⟨a', e, z'⟩ := g
      cases e
      rw [z] at z'
      cases z'
    | dtp es =>
      obtain ⟨a', e, _, z'⟩ := g
      cases e
      rw [z] at z'
      cases z'
    | _ => cases (show (V.ref a = _) from g)
  | .dic ds, e, v, h, g => by
    obtain ⟨a, vs, rfl, ⟨_, z⟩, r⟩ := h
    cases e with
    | lst es =>
      obtain ⟨a', vs', e, ⟨_, z'⟩, r'⟩ := g
      cases e
      rw [z] at z'
      cases z'
    | tup es =>
      obtain ⟨a', vs', e, ⟨_, z', _⟩, r'⟩ := g
      cases e
      rw [z] at z'
      cases z'
    | dic es =>
      obtain ⟨a', vs', e, ⟨_, z'⟩, r'⟩ := g
      cases e
      rw [z] at z'
      cases z'
      rw [RepK.fun_ ds es vs r r']
    | ktp es =>
      obtain ⟨a', e, z'⟩ := g
      cases e
      rw [z] at z'
      cases z'
    | dtp es =>
      obtain ⟨a', e, _, z'⟩ := g
      cases e
      rw [z] at z'
      cases z'
    | _ => cases (show (V.ref a = _) from g)
  | .ktp ks, e, v, h, g => by
    obtain ⟨a, rfl, z⟩ := h
    cases e with
    | lst es =>
      obtain ⟨a', vs', e, ⟨_, z'⟩, r'⟩ := g
      cases e
      rw [z] at z'
      cases z'
    | tup es =>
      obtain ⟨a', vs', e, ⟨_, z', _⟩, r'⟩ := g
      cases e
      rw [z] at z'
      cases z'
    | dic es =>
      obtain ⟨a', vs', e, ⟨_, z'⟩, r'⟩ := g
      cases e
      rw [z] at z'
      cases z'
    | ktp es =>
      obtain ⟨a', e, z'⟩ := g
      cases e
      rw [z] at z'
      rw [kVs_inj (HO.tup.inj (Option.some.inj z'))]
    | dtp es =>
      obtain ⟨a', e, _, z'⟩ := g
      cases e
      rw [z] at z'
      cases z'
    | _ => cases (show (V.ref a = _) from g)
  | .dtp ks, e, v, h, g => by
    obtain ⟨a, rfl, _, z⟩ := h
    cases e with
    | lst es =>
      obtain ⟨a', vs', e, ⟨_, z'⟩, r'⟩ := g
      cases e
      rw [z] at z'
      cases z'
    | tup es =>
      obtain ⟨a', vs', e, ⟨_, z', _⟩, r'⟩ := g
      cases e
      rw [z] at z'
      cases z'
    | dic es =>
      obtain ⟨a', vs', e, ⟨_, z'⟩, r'⟩ := g
      cases e
      rw [z] at z'
      cases z'
    | ktp es =>
      obtain ⟨a', e, z'⟩ := g
      cases e
      rw [z] at z'
      cases z'
    | dtp es =>
      obtain ⟨a', e, _, z'⟩ := g
      cases e
      rw [z] at z'
      rw [kvV_inj (HO.dT.inj (Option.some.inj z'))]
    | _ => cases (show (V.ref a = _) from g)
theorem RepA.fun_ : ∀ (ds es : List D) (vs : List V), RepA K H (some B) ds vs → RepA K H (some B) es vs → ds = es
  | [], [], _, _, _ => rfl
  | [], e :: es, vs, h, g => by
    obtain ⟨v, r, z, _⟩ := g
    cases (show vs = [] from h)
    cases z
  | d :: ds, [], vs, h, g => by
    obtain ⟨v, r, z, _⟩ := h
    cases (show vs = [] from g)
    cases z
  | d :: ds, e :: es, vs, h, g => by
    obtain ⟨v, r, rfl, h1, h2⟩ := h
    obtain ⟨v', r', z, g1, g2⟩ := g
    cases z
    rw [Rep.fun_ d e v h1 g1, RepA.fun_ ds es r h2 g2]
theorem RepK.fun_ : ∀ (ds es : List (Key × D)) (vs : List (Key × V)), RepK K H (some B) ds vs → RepK K H (some B) es vs → ds = es
  | [], [], _, _, _ => rfl
  | [], (k, e) :: es, vs, h, g => by
    obtain ⟨v, r, z, _⟩ := g
    cases (show vs = [] from h)
    cases z
  | (k, d) :: ds, [], vs, h, g => by
    obtain ⟨v, r, z, _⟩ := h
    cases (show vs = [] from g)
    cases z
  | (k, d) :: ds, (k', e) :: es, vs, h, g => by
    obtain ⟨v, r, rfl, h1, h2⟩ := h
    obtain ⟨v', r', z, g1, g2⟩ := g
    cases z
    rw [Rep.fun_ d e v h1 g1, RepK.fun_ ds es r h2 g2]
end
section
variable {a : Addr} {n : Nat}
mutual
theorem Rep.off (A : ∀ d, Rep K H (some B) d (.ref a) → n ≤ d.siz) : ∀ (d : D) (v : V), d.siz < n → Rep K H (some B) d v → Rep K (cut H fun b => b = a) none d v
  | .non, v, _, h => h
  | .bl b, v, _, h => h
  | .int b, v, _, h => h
  | .str b, v, _, h => h
  | .lst ds, v, s, h => by
    have h' := h
    obtain ⟨b, vs, rfl, ⟨_, z⟩, r⟩ := h
    have ne : b ≠ a := fun e => by
      subst e
      have := A _ h'
      omega
    rw [D.siz] at s
    exact ⟨b, vs, rfl, .inl (.inl (cut_some.mpr ⟨ne, z⟩)), RepA.off A ds vs (by omega) r⟩
  | .tup ds, v, s, h => by
    have h' := h
    obtain ⟨b, vs, rfl, ⟨u, z, zd⟩, r⟩ := h
    have ne : b ≠ a := fun e => by
      subst e
      have := A _ h'
      omega
    rw [D.siz] at s
    exact ⟨b, vs, rfl, ⟨u, cut_some.mpr ⟨ne, z⟩, zd⟩, RepA.off A ds vs (by omega) r⟩
  | .dic ds, v, s, h => by
    have h' := h
    obtain ⟨b, vs, rfl, ⟨_, z⟩, r⟩ := h
    have ne : b ≠ a := fun e => by
      subst e
      have := A _ h'
      omega
    rw [D.siz] at s
    exact ⟨b, vs, rfl, .inl (cut_some.mpr ⟨ne, z⟩), RepK.off A ds vs (by omega) r⟩
  | .ktp ds, v, s, h => by
    have h' := h
    obtain ⟨b, rfl, z⟩ := h
    have ne : b ≠ a := fun e => by
      subst e
      have := A _ h'
      omega
    exact ⟨b, rfl, cut_some.mpr ⟨ne, z⟩⟩
  | .dtp ds, v, s, h => by
    have h' := h
    obtain ⟨b, rfl, _, z⟩ := h
    have ne : b ≠ a := fun e => by
      subst e
      have := A _ h'
      omega
    exact ⟨b, rfl, .inl (cut_some.mpr ⟨ne, z⟩)⟩
theorem RepA.off (A : ∀ d, Rep K H (some B) d (.ref a) → n ≤ d.siz) : ∀ (ds : List D) (vs : List V), sizA ds < n → RepA K H (some B) ds vs → RepA K (cut H fun b => b = a) none ds vs
  | [], vs, _, h => h
  | d :: ds, vs, s, h => by
    obtain ⟨v, r, e, h1, h2⟩ := h
    rw [sizA] at s
    exact ⟨v, r, e, Rep.off A d v (by omega) h1, RepA.off A ds r (by omega) h2⟩
theorem RepK.off (A : ∀ d, Rep K H (some B) d (.ref a) → n ≤ d.siz) : ∀ (ds : List (Key × D)) (vs : List (Key × V)), sizK ds < n → RepK K H (some B) ds vs → RepK K (cut H fun b => b = a) none ds vs
  | [], vs, _, h => h
  | (k, d) :: ds, vs, s, h => by
    obtain ⟨v, r, e, h1, h2⟩ := h
    rw [sizK] at s
    exact ⟨v, r, e, Rep.off A d v (by omega) h1, RepK.off A ds r (by omega) h2⟩
end
end
theorem lent_new {d : D} {v : V} (h : Rep K H (some B) d v) : LentR K B H d v := by
  refine ⟨h.any, fun ht => ?_⟩
  have h' := h
  cases d with
  | lst ds =>
    obtain ⟨a, vs, rfl, ⟨n, z⟩, r⟩ := h
    exact ⟨a, rfl, n, vs, z, RepA.off (n := (D.lst ds).siz) (fun e g => by rw [Rep.fun_ _ _ _ h' g]; exact Nat.le_refl _) ds vs (by rw [D.siz]; omega) r⟩
  | dic ds =>
    obtain ⟨a, vs, rfl, ⟨n, z⟩, r⟩ := h
    exact ⟨a, rfl, n, vs, z, RepK.off (n := (D.dic ds).siz) (fun e g => by rw [Rep.fun_ _ _ _ h' g]; exact Nat.le_refl _) ds vs (by rw [D.siz]; omega) r⟩
  | dtp ds =>
    obtain ⟨a, rfl, n, z⟩ := h
    exact ⟨a, rfl, n, z⟩
  | _ => exact nomatch ht
end
end DL

set_option Elab.async false
set_option linter.all false
set_option maxRecDepth 100000
/-! defs whose result is lent only: lists within lists; called with arguments without lists of the caller's own -/
namespace DL
open PySem PySem.Spec PyProof.Rows L2

theorem objOk_cut {P : Program} {w : World} {H : Hp} {h : Heap} {L : Addr → Prop} (hL : ∀ b, L b → ∀ o, H b = some o → IsLD o) {a : Addr} : ∀ {o : HO}, ObjOk P w H h a o → ObjOk P w (cut H L) h a o
  | .frz o u, q => by
    unfold ObjOk at q ⊢
    exact ⟨q.1, objOk_cut hL q.2⟩
  | .dT kvs, q => by
    unfold ObjOk at q ⊢
    obtain ⟨q1, q2, xs, q3, q4⟩ := q
    refine ⟨q1, q2, xs, Paired.mono (fun p x z => ⟨z.1, cut_some.mpr ⟨fun l => hL _ l _ z.2.1, z.2.1⟩, z.2.2⟩) q3, q4⟩
  | .ins C dx fs, q => by
    unfold ObjOk at q ⊢
    exact ⟨cut_some.mpr ⟨fun l => hL _ l _ q.1, q.1⟩, q.2⟩
  | .lst _, q => by unfold ObjOk at q ⊢; exact q
  | .tup _, q => by unfold ObjOk at q ⊢; exact q
  | .dK _, q => by unfold ObjOk at q ⊢; exact q
  | .set _ _, q => by unfold ObjOk at q ⊢; exact q
  | .own _, q => by unfold ObjOk at q ⊢; exact q
  | .xd _, q => by unfold ObjOk at q ⊢; exact q
  | .met _ _, q => by unfold ObjOk at q ⊢; exact q
  | .rng _ _, q => by unfold ObjOk at q ⊢; exact q
  | .tbl _, q => by unfold ObjOk at q ⊢; exact q
  | .ext _, q => by unfold ObjOk at q ⊢; exact q
theorem hok_cut {P : Program} {w : World} {H : Hp} {h : Heap} {L : Addr → Prop} (hL : ∀ b, L b → ∀ o, H b = some o → IsLD o) (k : HOk P w H h) : HOk P w (cut H L) h := fun a o e => objOk_cut hL (k a o (cut_some.mp e).2)
/-- the heap behind, and what was put aside -/
noncomputable def glue (H H' : Hp) (L : Addr → Prop) : Hp := fun b => open Classical in if L b then H b else H' b
theorem glue_in {H H' : Hp} {L : Addr → Prop} {b : Addr} (h : L b) : glue H H' L b = H b := if_pos h
theorem glue_out {H H' : Hp} {L : Addr → Prop} {b : Addr} (h : ¬ L b) : glue H H' L b = H' b := if_neg h
theorem objOk_glue {P : Program} {w : World} {H H' : Hp} {h : Heap} {L : Addr → Prop} (hn : ∀ b, L b → H' b = none) {a : Addr} : ∀ {o : HO}, ObjOk P w H' h a o → ObjOk P w (glue H H' L) h a o
  | .frz o u, q => by
    unfold ObjOk at q ⊢
    exact ⟨q.1, objOk_glue hn q.2⟩
  | .dT kvs, q => by
    unfold ObjOk at q ⊢
    obtain ⟨q1, q2, xs, q3, q4⟩ := q
    refine ⟨q1, q2, xs, Paired.mono (fun p x z => ⟨z.1, ?_, z.2.2⟩) q3, q4⟩
    rw [glue_out fun l => by rw [hn _ l] at z; exact nomatch z.2.1]
    exact z.2.1
  | .ins C dx fs, q => by
    unfold ObjOk at q ⊢
    refine ⟨?_, q.2⟩
    rw [glue_out fun l => by rw [hn _ l] at q; exact nomatch q.1]
    exact q.1
  | .lst _, q => by unfold ObjOk at q ⊢; exact q
  | .tup _, q => by unfold ObjOk at q ⊢; exact q
  | .dK _, q => by unfold ObjOk at q ⊢; exact q
  | .set _ _, q => by unfold ObjOk at q ⊢; exact q
  | .own _, q => by unfold ObjOk at q ⊢; exact q
  | .xd _, q => by unfold ObjOk at q ⊢; exact q
  | .met _ _, q => by unfold ObjOk at q ⊢; exact q
  | .rng _ _, q => by unfold ObjOk at q ⊢; exact q
  | .tbl _, q => by unfold ObjOk at q ⊢; exact q
  | .ext _, q => by unfold ObjOk at q ⊢; exact q
theorem objOk_kept {P : Program} {w : World} {H H' : Hp} {h h' : Heap} {a : Addr} {o : HO} (ht : ∀ b xs, H b = some (.tup xs) → H' b = some (.tup xs)) (ld : IsLD o) (k : ∀ u, h.get? a = some u → h'.get? a = some u) (q : ObjOk P w H h a o) : ObjOk P w H' h' a o := by
  cases o with
  | lst vs =>
    unfold ObjOk at q ⊢
    obtain ⟨q1, its, n, q2, q3⟩ := q
    exact ⟨q1, its, n, q2, k _ q3⟩
  | dK kvs =>
    unfold ObjOk at q ⊢
    obtain ⟨q1, q2, vs, q3, o, es, ep, q4, q5⟩ := q
    exact ⟨q1, q2, vs, q3, o, es, ep, k _ q4, q5⟩
  | dT kvs =>
    unfold ObjOk at q ⊢
    obtain ⟨q1, q2, xs, q3, o, es, ep, q4, q5⟩ := q
    exact ⟨q1, q2, xs, Paired.mono (fun p x z => ⟨z.1, ht _ _ z.2.1, z.2.2⟩) q3, o, es, ep, k _ q4, q5⟩
  | _ => exact ld.elim
/-! ### the promises -/
/-- what the def itself keeps -/
def SpLc (K : PySem.W.Frag) (sp : SpT) : Sp := fun vs H Q E => ∃ ds e q, RepA K H none ds vs ∧ sp ds e q ∧ (∀ v H' d, Same H H' → LentR K H H' d v → q d → Q v H') ∧ ∀ cls dx H' x, Same H H' → XRep K H' cls dx x → e x → E cls dx H'
/-- what its caller has of it: it raises nothing -/
def SpL (K : PySem.W.Frag) (sp : SpT) : Sp := fun vs H Q _ => ∃ (L : Addr → Prop) (ds : List D) (q : D → Prop), (∀ b, L b → ∃ o, H b = some o ∧ IsLD o) ∧ RepA K (cut H L) none ds vs ∧ sp ds (fun _ => False) q ∧ ∀ v H' d, Same H H' → Rep K (cut H' L) none d v → (d.top = true → ∃ a, v = .ref a ∧ H a = none ∧ OwnRep K H' (cut H' fun b => L b ∨ b = a) a d) → q d → Q v H'
section
variable {P : Program} {w : World} {K : PySem.W.Frag} {mg : Str → Option Value} {base : Heap} {k : Nat}
theorem fr_ok {f : Addr} {fd : FuncData} {ps : List Str} {sp : SpT} (F : FnOk P w K mg base (L2.CX P w) k f fd ps (SpLc K sp)) : FnOk P w K mg base (L2.CX P w) k f fd ps (SpL K sp) := by
  refine ⟨fun vs H Q E ⟨L, ds, q, hL, ra, h, ok⟩ => F.len vs (cut H L) (fun _ _ => True) (fun _ _ _ => True) ⟨ds, _, q, ra, h, fun _ _ _ _ _ _ => trivial, fun _ _ _ _ _ _ _ => trivial⟩, ?_⟩
  intro A outer s H args us vs Q E hr env hb hv ⟨L, ds, q, hL, ra, h, ok⟩
  have hL' : ∀ b, L b → ∀ o, H b = some o → IsLD o := fun b l o e => by
    obtain ⟨o', e', z⟩ := hL b l
    rw [e] at e'
    cases e'
    exact z
  have cn : ∀ {b}, H b = none → cut H L b = none := fun {b} e => by
    cases c : cut H L b with
    | none => rfl
    | some o => rw [(cut_some.mp c).2] at e; cases e
  have ln : ∀ {b}, L b → cut H L b = none := fun {b} l => by
    cases c : cut H L b with
    | none => rfl
    | some o => exact absurd l (cut_some.mp c).1
  have env' : Env0 P w K mg base A outer s (cut H L) := ⟨env.frames, env.mod, fun b o z => ⟨(env.bs b o z).1, cn (env.bs b o z).2⟩, env.bsz, env.funs, fun b z => cn (env.frf b z), hok_cut hL' env.hok, env.bare⟩
  have run := F.run A outer s (cut H L) args us vs (fun v H' => Same (cut H L) H' ∧ ∃ d, LentR K (cut H L) H' d v ∧ q d) (fun _ _ _ => False) hr env' hb hv ⟨ds, _, q, ra, h, fun v H' d s1 r hq => ⟨s1, d, r, hq⟩, fun _ _ _ _ _ _ z => z⟩
  refine codeAny_mono run fun r s' z => ?_
  match r, z with
  | .ok (.ret u), ⟨v, H', os, bare, un, hok, rv, sm, d, ⟨rd, rn⟩, hq⟩ =>
    -- there, and none of the def's
    have there : ∀ {b}, L b → ∃ o ob, H b = some o ∧ IsLD o ∧ s.heap.get? b = some ob ∧ s'.heap.get? b = some ob ∧ H' b = none := fun {b} l => by
      obtain ⟨o, e, z⟩ := hL b l
      obtain ⟨ob, eo⟩ : ∃ ob, s.heap.get? b = some ob := by
        cases c : s.heap.get? b with
        | none => rw [env.hok.gone c] at e; cases e
        | some ob => exact ⟨ob, rfl⟩
      have nf : b ∉ frs outer := fun z => by rw [env.frf b z] at e; cases e
      exact ⟨o, ob, e, z, eo, un.keep b ob eo (ln l) nf (by simp), un.free b ob eo (ln l) (by simp)⟩
    have hn : ∀ b, L b → H' b = none := fun b l => let ⟨_, _, _, _, _, _, z⟩ := there l; z
    refine ⟨v, glue H H' L, os, bare, ?_, ?_, rv, ok v (glue H H' L) d (fun b o e => ?_) ?_ (fun ht => ?_) hq⟩
    · refine ⟨fun b o e e2 nf ne => un.keep b o e (cn e2) nf ne, fun b o e e2 nf ne => un.slot b o e (cn e2) nf ne, fun b o e e2 ne => ?_, fun b o e ne => un.there b o e ne, fun b xs e => ?_, fun b o u e => ?_, fun b ps e => ?_⟩
      · by_cases l : L b
        · rw [glue_in l]; exact e2
        · rw [glue_out l]; exact un.free b o e (cn e2) ne
      · have nl : ¬ L b := fun l => hL' b l _ e
        rw [glue_out nl]
        exact un.tups b xs (cut_some.mpr ⟨nl, e⟩)
      · have nl : ¬ L b := fun l => hL' b l _ e
        rw [glue_out nl]
        exact un.frzs b o u (cut_some.mpr ⟨nl, e⟩)
      · have nl : ¬ L b := fun l => hL' b l _ e
        rw [glue_out nl]
        exact un.tbls b ps (cut_some.mpr ⟨nl, e⟩)
    · intro a o e
      by_cases l : L a
      · rw [glue_in l] at e
        obtain ⟨o', ob, e1, ld, e2, e3, _⟩ := there l
        rw [e1] at e
        cases e
        exact objOk_kept (fun b xs eb => by
          have nl : ¬ L b := fun l => hL' b l _ eb
          rw [glue_out nl]
          exact un.tups b xs (cut_some.mpr ⟨nl, eb⟩)) ld (fun u z => by rw [e2] at z; cases z; exact e3) (env.hok a _ e1)
      · rw [glue_out l] at e
        exact objOk_glue hn (hok a o e)
    · by_cases l : L b
      · rw [glue_in l]; exact e
      · rw [glue_out l]; exact sm b o (cut_some.mpr ⟨l, e⟩)
    · refine Rep.same (fun b o e => ?_) rd
      have nl : ¬ L b := fun l => by rw [hn b l] at e; cases e
      exact cut_some.mpr ⟨nl, by rw [glue_out nl]; exact e⟩
    · obtain ⟨a, ea, na, ow⟩ := rn ht
      obtain ⟨oa, eo, _⟩ := ow.there
      have nl : ¬ L a := fun l => by rw [hn a l] at eo; cases eo
      refine ⟨a, ea, ?_, ow.same (fun o e => by rw [glue_out nl]; exact e) fun b o e => ?_⟩
      · cases c : H a with
        | none => rfl
        | some o =>
          rw [cut_some.mpr ⟨nl, c⟩] at na
          cases na
      · obtain ⟨e1, e2⟩ := cut_some.mp e
        have nlb : ¬ L b := fun l => by rw [hn b l] at e2; cases e2
        exact cut_some.mpr ⟨fun z => z.elim nlb e1, by rw [glue_out nlb]; exact e2⟩
  | .error e, z =>
    obtain ⟨a, B, H', cls, d, _, _, _, _, _, _, _, z⟩ := z
    exact z.elim
theorem fn_byL {x : Str} {st : Stmt} {f : Addr} {fd : FuncData} {N ps : List Str} {sp : SpT} (F : FnP K x st f fd) (S : FnScope N ps (defScope st)) (len : ∀ ds e q, sp ds e q → ds.length = ps.length) (t : ST)
    (ht : ∀ (cdv : Value) (A : Around) (outer : List Env) (s : Shared) (H : Hp) (E : XK), Room k (A.deeper (envOfC x (defScope st) s.heap.objs.size f cdv)) → Takes (cxOf (L2.CX P w) P w K mg base N x (defScope st) f cdv A outer s H E) (WD E) →
      DSs (cxOf (L2.CX P w) P w K mg base N x (defScope st) f cdv A outer s H E) (WD E) (defBody st) t)
    (hq : ∀ ds e q, sp ds e q → t { nx := fun _ => q .non, rt := q, xe := fun x _ => e x, lent := True } (startD N ds)) : FnOk P w K mg base (L2.CX P w) (k + 1) f fd ps (SpLc K sp) := by
  refine F.ok S (fun vs H Q E ⟨ds, e, q, ra, h, _⟩ => ra.len.trans (len ds e q h)) fun cdv A outer s H vs Q E hr ⟨ds, e, q, ra, h, ok, bad⟩ => ?_
  refine ⟨_, ht cdv A outer s H E hr (takes_of rfl rfl rfl rfl), ⟨H, fun _ => False⟩, startD N ds, _, start_rel ra, hq ds e q h, fun δ' σ' H' r' s' z => ?_, fun v H' d s' R z => ok v H' d s' (R.elim lent_new fun z => z.2) z, fun _ _ _ _ _ z => z.elim, fun _ _ _ _ _ z => z.elim, fun cls dx δ' σ' H' x r' s' xr z => bad cls dx H' x r'.base xr z⟩
  exact ok .non H' .non r'.base ⟨rfl, fun z => nomatch z⟩ z
structure CalL (P : Program) (w : World) (K : PySem.W.Frag) (mg : Str → Option Value) (base : Heap) (k : Nat) (x : Str) (ps : List Str) (sp : SpT) : Prop where
  ex : ∃ f fd, FnOk P w K mg base (L2.CX P w) k f fd ps (SpL K sp) ∧ mg x = some (.ref f) ∧ PySem.W.keepIn K (.ref f) = true ∧ Binds K fd ps []
theorem calL_of {x : Str} {f : Addr} {fd : FuncData} {ps : List Str} {sp : SpT} (kp : PySem.W.keepIn K (.ref f) = true) (g : mg x = some (.ref f)) (b : Binds K fd ps []) (ok : FnOk P w K mg base (L2.CX P w) k f fd ps (SpLc K sp)) : CalL P w K mg base k x ps sp := ⟨f, fd, fr_ok ok, g, kp, b⟩
end
/-! ### return, call -/
/-- a list or a dict that is returned is new -/
def newTop : Tg → D → Bool
  | .nw, _ => true
  | .bo, _ => true
  | _, d => !d.top
theorem retL_ok {K : PySem.W.Frag} {B : Bs} {H H' : Hp} {δ : DSt} {σ : St} {g : Tg} {d : D} {v : V} (r : DRel K B H δ σ) (hg : newTop g d = true) (R : Res K B H H' δ σ g d v) : LentR K B.hp H' d v := by
  have own : ∀ {Z : Hp} {a : Addr}, Same Z H' → OwnRep K H' Z a d → Rep K H' none d (.ref a) := fun {Z a} s o => by
    cases d with
    | lst ds =>
      obtain ⟨vs, e, r⟩ := o
      exact ⟨a, vs, rfl, .inl (.inl e), RepA.same s r⟩
    | dic kds =>
      obtain ⟨vs, e, r⟩ := o
      exact ⟨a, vs, rfl, .inl e, RepK.same s r⟩
    | dtp kds => exact ⟨a, rfl, .inl o⟩
    | _ => exact o.elim
  cases g with
  | fz => exact ⟨Rep.same (cut_le _ _) R, fun z => by
    have hg : (!d.top) = true := hg
    rw [z] at hg
    cases hg⟩
  | fr => exact ⟨(Rep.same (cut_le _ _) R).any, fun z => by
    have hg : (!d.top) = true := hg
    rw [z] at hg
    cases hg⟩
  | nw =>
    obtain ⟨a, rfl, n, o⟩ := R
    exact ⟨own (cut_le _ _) o, fun _ => ⟨a, rfl, r.noB n, o.same (fun _ z => z) (same_cut (Same.refl _) fun b _ z => .inr z)⟩⟩
  | bo =>
    obtain ⟨a, rfl, n, o, ho⟩ := R
    exact ⟨own (cut_le _ _) o, fun _ => ⟨a, rfl, n, o.same (fun _ z => z) (same_cut (Same.refl _) fun b _ z => by subst z; exact .inl ho)⟩⟩
def sRetL (t : ET) : ST := fun E δ => t (fun x => E.xe x δ) δ fun g d => (E.lent ∧ newTop g d = true) ∧ E.rt d
def eCallL (sp : SpT) (t : AT) : ET := fun e δ q => t e δ fun ds => immA ds = true ∧ sp ds (fun _ => False) (q .fz)
section
variable {X : Cx} {W : WX} {e : Expr} {es : List Expr} {ta : ET} {t : AT} {k j : Nat} {ps : List Str} {sp : SpT} {x : Str} {p pos : Pos}
theorem ds_retL (he : DE X W e ta) : DS X W (.Return (some e) pos) (sRetL ta) := PS.imp (ps_ret he) fun N σ H ⟨B, δ, E, r, h, nx, rt, bk, ct, xe⟩ =>
  ⟨B, δ, fun x => E.xe x δ, _, r, h, fun v H' g d s R hq => rt v H' d (r.base.trans s) (.inr ⟨hq.1.1, retL_ok r hq.1.2 R⟩) hq.2, fun cls dx H' x s xr hx => xe cls dx δ σ H' x (r.ext s) (DRel.frz_ext s) xr hx⟩
theorem brepA_imm {K : PySem.W.Frag} {H Z : Hp} : ∀ {ds : List D} {vs : List V}, immA ds = true → BRepA K H Z ds vs → RepA K Z none ds vs
  | [], _, _, h => h
  | d :: ds, _, i, ⟨v, r, e, h1, h2⟩ => by
    have i : (d.imm && immA ds) = true := by
      rw [immA] at i
      exact i
    rw [Bool.and_eq_true] at i
    refine ⟨v, r, e, ?_, brepA_imm i.2 h2⟩
    cases d with
    | lst xs => exact absurd i.1 Bool.false_ne_true
    | dic xs => exact absurd i.1 Bool.false_ne_true
    | dtp xs => exact absurd i.1 Bool.false_ne_true
    | _ => exact h1
theorem de_callL (C : CalL X.prog X.w X.K X.mg X.base k x ps sp) (hr : Room j X.A) (hg : Gl X x) (tk : Takes X W) (ha : DA X W (e :: es) t) (hk : k ≤ j := by decide) (hdb : (x == ("__debug__" : Str)) = false := by decide)
    (he : starEach (e :: es) X.env = (false, eval e X.env) :: starEach es X.env := by rfl) (hpl : (backTo pos (starEach es X.env)).any (·.1) = false := by rfl) : DE X W (.Call (.Name x p) (e :: es) [] pos) (eCallL sp t) := by
  obtain ⟨f, fd, F, g, kp, b⟩ := C.ex
  refine PE.imp (pe_callSD F (hr.mono hk) hg g kp b .nil (fun σ => passAt tk σ) ha hdb he hpl) fun σ H Q ⟨B, δ, e, q, r0, h, ok, bad⟩ => ?_
  refine ⟨B, δ, e, _, r0, h, fun vs H1 ds s1 R1 h1 => ?_, bad⟩
  refine ⟨Hid B δ σ, ds, _, fun b hb => ?_, ?_, h1.2, fun v H' d s R _ hq => ok v H' .fz d (s1.trans s) R hq⟩
  · obtain ⟨_, o, e, _, _, _, ld⟩ := (r0.ext s1).own hb
    exact ⟨o, e, ld⟩
  · rw [List.append_nil]
    exact brepA_imm h1.1 R1
/-- .. a list or a dict that comes is new -/
def eCallM (sp : SpT) (t : AT) : ET := fun e δ q => t e δ fun ds => immA ds = true ∧ sp ds (fun _ => False) fun d => q (if d.top then .nw else .fz) d
theorem de_callM (C : CalL X.prog X.w X.K X.mg X.base k x ps sp) (hr : Room j X.A) (hg : Gl X x) (tk : Takes X W) (ha : DA X W (e :: es) t) (hk : k ≤ j := by decide) (hdb : (x == ("__debug__" : Str)) = false := by decide)
    (he : starEach (e :: es) X.env = (false, eval e X.env) :: starEach es X.env := by rfl) (hpl : (backTo pos (starEach es X.env)).any (·.1) = false := by rfl) : DE X W (.Call (.Name x p) (e :: es) [] pos) (eCallM sp t) := by
  obtain ⟨f, fd, F, g, kp, b⟩ := C.ex
  refine PE.imp (pe_callSD F (hr.mono hk) hg g kp b .nil (fun σ => passAt tk σ) ha hdb he hpl) fun σ H Q ⟨B, δ, e, q, r0, h, ok, bad⟩ => ?_
  refine ⟨B, δ, e, _, r0, h, fun vs H1 ds s1 R1 h1 => ?_, bad⟩
  refine ⟨Hid B δ σ, ds, _, fun b hb => ?_, ?_, h1.2, fun v H' d s R Rn hq => ?_⟩
  · obtain ⟨_, o, e, _, _, _, ld⟩ := (r0.ext s1).own hb
    exact ⟨o, e, ld⟩
  · rw [List.append_nil]
    exact brepA_imm h1.1 R1
  · cases c : d.top with
    | true =>
      rw [c] at hq
      obtain ⟨a, ea, na, o⟩ := Rn c
      exact ok v H' .nw d (s1.trans s) ⟨a, ea, s1.free na, o⟩ hq
    | false =>
      rw [c] at hq
      exact ok v H' .fz d (s1.trans s) R hq
end
end DL

set_option Elab.async false
set_option linter.all false
set_option maxRecDepth 100000
/-! xs.extend(a new list); a new dict walked by items; by keys -/
namespace DL
open PySem PySem.Spec PyProof.Rows L2

section
variable {X : Cx} {W : WX} {a b c e o tg : Expr} {es : List Expr} {ta tb tc tk : ET} {ti : AT} {pos pos' : Pos} {g : GT} {it : IT} {ws : List Nat}
def sExt (i : Nat) (t : ET) : ST := fun E δ => ownL δ i fun ds => t (fun x => E.xe x δ) δ fun g d => g = .nw ∧ match d with
  | .lst es => ds.length + es.length ≤ sizeLine ∧ E.nx (setS δ i (.ow (.lst (ds ++ es))))
  | _ => False
theorem ds_ext (i : Nat) {x : Str} {xpos apos cpos : Pos} (he : DE X W e ta) (hN : X.N[i]? = some x := by rfl) (hv : Vis X.env.scope x := by first | exact Or.inl rfl | exact Or.inr (Or.inl rfl) | exact Or.inr (Or.inr rfl)) (hd : (x == ("__debug__" : Str)) = false := by decide)
    (hcd : (x == ("__classdict__" : Str)) = false := by decide) (hbase : attributeBase (.Name x xpos) "extend" X.env (eval (.Name x xpos) X.env) = eval (.Name x xpos) X.env := by rfl)
    (hfew : ((backTo cpos (starEach [e] X.env)).all (fun x => !x.1) && (backToKw cpos (keywordEach [] X.env)).all (fun x => x.1.isSome)
      && decide ([e].length + ([] : List Keyword).length + (if ([] : List Keyword).isEmpty then 0 else 1) < 30)) = true := by rfl)
    (hline : (apos.endLine == cpos.line) = true := by rfl) (hs : starEach [e] X.env = (false, eval e X.env) :: starEach [] X.env := by rfl) (hplain : (backTo cpos (starEach [] X.env)).any (·.1) = false := by rfl)
    (hsw : swapsWith (.Call (.Attribute (.Name x xpos) "extend" apos) [e] [] cpos) none pos.line X.env = pure false := by rfl) :
    DS X W (.Expr (.Call (.Attribute (.Name x xpos) "extend" apos) [e] [] cpos) pos) (sExt i ta) :=
  PS.imp (ps_expr (pe_bm PySem.F.plainAttrs_list PySem.F.slot_list_extend PySem.F.type_list_extend (mt_extend (X := X)) (pv i hN hv hd hcd) (pa_cons he pa_nil hs) hbase hfew hline hs hplain) hsw) fun N σ H ⟨B, δ, E, r, h, nx, rt, bk, ct, xe⟩ => by
  obtain ⟨ds, hg, h⟩ := ownL_of h
  obtain ⟨a, vs, hi, ea, e1, e2⟩ := r.lst hg
  refine ⟨.ref a, ea, .inl ⟨rfl, vs, .inl (.inl e1)⟩, ?_⟩
  refine ⟨B, δ, fun x => E.xe x δ, _, r, h, fun v H' g d s R hq => ?_, fun cls dx H' x s xr hx => xe cls dx δ σ H' x (r.ext s) (DRel.frz_ext s) xr hx⟩
  obtain ⟨hgn, hq⟩ := hq
  subst hgn
  cases d with
  | lst es =>
    obtain ⟨p, rfl, np, ws, f1, f2⟩ := R
    have y2 := RepA.same (own_cut (H' := H') (r.notOwn np)).1 f2
    refine ⟨a, p, vs, ws, rfl, rfl, s _ _ e1, f1, by rw [e2.len, y2.len]; exact hq.1, ?_⟩
    obtain ⟨r', s'⟩ := (r.ext s).mut (o' := .lst (vs ++ ws)) (d' := .lst (ds ++ es)) hi ea ⟨_, upd_same, (RepA.same (DRel.frz_ext s) e2).app y2⟩
    exact nx _ _ _ r' ((DRel.frz_ext s).trans s') hq.2
  | _ => exact hq.elim

/-! ### a new dict is locked -/
def tLocked (td : TE) : TE := fun σ H Q => td σ H fun v H1 => ∃ d u, v = .ref d ∧ H1 d = some u ∧ Mut (some u) ∧ ∀ od, Q v (upd H1 d (.frz od u))
theorem pe_locked {td : TE} (h : PE X e td) : PE X e (tLocked td) := ⟨fun pins s σ H Q I w => thn (h.run pins s σ H _ I w) fun v s1 ⟨x, H1, I1, r, d, u, ex, hd, mu, q⟩ => let ⟨od, I2⟩ := I1.lock hd mu; ⟨x, _, I2, r, q od⟩⟩
def itemsD (kds : List (Key × D)) : List D := kds.map fun kd => .tup [keyToD kd.1, kd.2]
theorem RepK.at_ {K : PySem.W.Frag} {H : Hp} {M : Option Hp} : ∀ {ds : List (Key × D)} {vs : List (Key × V)} {i : Nat} {k : Key} {v : V}, RepK K H M ds vs → vs[i]? = some (k, v) → ∃ d, ds[i]? = some (k, d) ∧ Rep K H M d v
  | [], vs, i, k, v, h, e => by
    cases (show vs = [] from h)
    simp at e
  | (c, d) :: ds, vs, 0, k, v, h, e => by
    obtain ⟨w, r, rfl, h1, h2⟩ := h
    simp at e
    obtain ⟨rfl, rfl⟩ := e
    exact ⟨d, rfl, h1⟩
  | (c, d) :: ds, vs, i + 1, k, v, h, e => by
    obtain ⟨w, r, rfl, h1, h2⟩ := h
    exact RepK.at_ (i := i) h2 (by simpa using e)
theorem dlv_items {K : PySem.W.Frag} {Z : Hp} {a : Addr} {o : Obj} {kds : List (Key × D)} {kvs : List (Key × V)} (h : Z a = some (.frz o (.dK kvs))) (r : RepK K Z none kds kvs) : Dlv K Z (Iti a o kvs) .wk (itemsD kds) := by
  have el : (itemsD kds).length = kvs.length := by unfold itemsD; rw [List.length_map, r.len]
  refine ⟨fun H s => ⟨s _ _ h, by rw [el]; exact Nat.le_refl _⟩, fun H i s hi => ⟨s _ _ h, by rw [← el]; exact hi⟩, fun H i x H' s hi y => ?_⟩
  obtain ⟨T, k, v, e, rfl, nT, rfl⟩ := y
  obtain ⟨d, e1, e2⟩ := r.at_ e
  refine ⟨.tup [keyToD k, d], ?_, .inr (.inl ⟨rfl, T, _, _, rfl, nT, rfl, rfl, _, _, rfl, keyToD_rep k, .one e2⟩)⟩
  unfold itemsD
  rw [List.getElem?_map, e1] <;> rfl
/-- a new dict is locked at a -/
theorem lock_nw {K : PySem.W.Frag} {B : Bs} {H H' : Hp} {δ : DSt} {σ : St} {a : Addr} {o : Obj} {kds : List (Key × D)} {kvs : List (Key × V)} (r : DRel K B H δ σ) (n : H a = none) (s : Same H H') (rk : RepK K (cut H' fun b => Hid B δ σ b ∨ b = a) none kds kvs) :
    Same H (upd H' a (.frz o (.dK kvs))) ∧ (Frz B (upd H' a (.frz o (.dK kvs))) δ σ) a = some (.frz o (.dK kvs)) ∧ RepK K (Frz B (upd H' a (.frz o (.dK kvs))) δ σ) none kds kvs := by
  refine ⟨fun b x e => ?_, cut_some.mpr ⟨r.notOwn n, upd_same⟩, RepK.same (fun b x e => ?_) rk⟩
  · rw [upd_ne (ne_of_none e n)]
    exact s b x e
  · obtain ⟨e1, e2⟩ := cut_some.mp e
    exact cut_some.mpr ⟨fun z => e1 (.inl z), by rw [upd_ne fun z => e1 (.inr z)]; exact e2⟩
/-- e.items(), e a new dict -/
def itItems (t : ET) : IT := fun e δ q => t e δ fun g x => g = .nw ∧ match x with
  | .dic kds => q .wk (itemsD kds)
  | _ => False
theorem it_items {elts : List Expr} {kk : Nat} {tpos apos cpos : Pos} (ha : DE X W a ta) (hbase : attributeBase a "items" X.env (eval a X.env) = eval a X.env := by rfl) (hline : (apos.endLine == cpos.line) = true := by rfl) :
    DIt X W (.Tuple elts kk tpos) (.Call (.Attribute a "items" apos) [] [] cpos) (itItems ta) :=
  PI.imp (pi_items (pe_locked ha) hbase hline) fun σ H R ⟨B, δ, e, q, r, h, ok, bad⟩ => by
  refine ⟨B, δ, e, _, r, h, fun v H' g d s R' hq => ?_, bad⟩
  obtain ⟨hg, hq⟩ := hq
  subst hg
  cases d with
  | dic kds =>
    obtain ⟨p, rfl, np, kvs, f1, f2⟩ := R'
    refine ⟨p, _, rfl, f1, trivial, fun od => ⟨p, od, kvs, rfl, upd_same, ?_⟩⟩
    obtain ⟨s1, s2, s3⟩ := lock_nw (o := od) r np s f2
    exact ok _ _ _ _ s1 (dlv_items s2 s3) hq
  | _ => exact hq.elim
/-- the keys of a new dict -/
def itKeys (t : ET) : IT := fun e δ q => t e δ fun g x => g = .nw ∧ match x with
  | .dic kds => q .sh (kds.map fun kd => keyToD kd.1)
  | .dtp kvs => q .sh (kvs.map fun kd => .ktp kd.1)
  | _ => False
theorem dlv_keysT {K : PySem.W.Frag} {Z : Hp} {a : Addr} {o : Obj} {kvs : List (List Key × Key)} (h : Z a = some (.frz o (.dT (kvV kvs)))) : Dlv K Z (Itkt a o (kvV kvs)) .sh (kvs.map fun kd => .ktp kd.1) := by
  have el : (kvs.map fun kd => D.ktp kd.1).length = (kvV kvs).length := by unfold kvV; rw [List.length_map, List.length_map]
  refine ⟨fun H s => ⟨s _ _ h, by rw [el]; exact Nat.le_refl _⟩, fun H i s hi => ⟨s _ _ h, by rw [← el]; exact hi⟩, fun H i x H' s hi y => ?_⟩
  obtain ⟨rfl, k, v, q, e, rfl, hq⟩ := y
  refine ⟨.ktp k, ?_, .inr (.inr (.inl ⟨rfl, rfl, q, k, rfl, rfl, hq⟩))⟩
  unfold kvV at e
  rw [List.getElem?_map] at e ⊢
  cases z : kvs[i]? with
  | none =>
    rw [z] at e
    cases e
  | some p =>
    rw [z] at e
    cases e
    rfl
theorem it_keys (ha : DE X W a ta) : DIt X W tg a (itKeys ta) :=
  PI.imp (pi_keys (pe_locked ha)) fun σ H R ⟨B, δ, e, q, r, h, ok, bad⟩ => by
  refine ⟨B, δ, e, _, r, h, fun v H' g d s R' hq => ?_, bad⟩
  obtain ⟨hg, hq⟩ := hq
  subst hg
  cases d with
  | dic kds =>
    obtain ⟨p, rfl, np, kvs, f1, f2⟩ := R'
    refine ⟨p, _, rfl, f1, trivial, fun od => ⟨p, od, rfl, .inl ⟨kvs, upd_same, ?_⟩⟩⟩
    obtain ⟨s1, s2, s3⟩ := lock_nw (o := od) r np s f2
    exact ok _ _ _ _ s1 (dlv_keys s2 s3.keys) hq
  | dtp kvs =>
    obtain ⟨p, rfl, np, f1⟩ := R'
    refine ⟨p, _, rfl, f1, trivial, fun od => ⟨p, od, rfl, .inr ⟨kvV kvs, upd_same, ?_⟩⟩⟩
    refine ok _ _ _ _ (fun b x e => ?_) (dlv_keysT (cut_some.mpr ⟨r.notOwn np, upd_same⟩)) hq
    rw [upd_ne (ne_of_none e np)]
    exact s b x e
  | _ => exact hq.elim
theorem it_zip {p tpos : Pos} {elts : List Expr} {kk : Nat} (hg : Gl X "zip") (hm : X.mg "zip" = none) (ha : DI X W [a, b] ti) (hs : starEach [a, b] X.env = (false, eval a X.env) :: starEach [b] X.env := by rfl) (hpl : (backTo pos (starEach [b] X.env)).any (·.1) = false := by rfl) :
    DIt X W (.Tuple elts kk tpos) (.Call (.Name "zip" p) [a, b] [] pos) (itZip ti) := PI.imp (pi_zip hg hm ha hs hpl) fun σ H R ⟨B, δ, e, q, r, h, ok, bad⟩ => by
  refine ⟨B, δ, e, _, r, h, fun vs H' ds s R' hq => ?_, bad⟩
  split at hq
  · obtain ⟨v, r2, rfl, ⟨p, xs, rfl, z1, z2⟩, w, r3, rfl, ⟨p', ys, rfl, y1, y2⟩, z3⟩ := R'
    cases (show r3 = [] from z3)
    exact ⟨p, p', xs, ys, rfl, SqL.mono (fun _ _ => rd_cut) z1, SqL.mono (fun _ _ => rd_cut) y1, ok _ _ _ _ s (dlv_zip z1 z2 y1 y2) hq⟩
  · exact hq.elim
end
end DL

set_option Elab.async false
set_option linter.all false
set_option maxRecDepth 100000
namespace DL
open PySem PySem.Spec PyProof.Rows L2

/-! ### dicts over names -/
def kmap (ks : List Str) (f : Str → D) : List (Key × D) := ks.map fun x => (.inr x, f x)
theorem kmap_look {ks : List Str} {f : Str → D} {x : Str} (h : x ∈ ks) : lookD (kmap ks f) (.inr x) = some (f x) := by
  unfold lookD kmap
  induction ks with
  | nil => cases h
  | cons y ks ih =>
    rw [List.map_cons, List.find?_cons]
    by_cases e : y = x
    · subst e
      simp
    · have : decide ((Sum.inr y : Key) = .inr x) = false := decide_eq_false fun z => e (Sum.inr.inj z)
      rw [this]
      refine ih ?_
      rcases List.mem_cons.mp h with h | h
      · exact absurd h.symm e
      · exact h
theorem kmap_none {ks : List Str} {f : Str → D} {x : Str} (h : x ∉ ks) : lookD (kmap ks f) (.inr x) = none := by
  unfold lookD kmap
  rw [Option.map_eq_none_iff, List.find?_eq_none]
  intro kv hk
  obtain ⟨y, hy, rfl⟩ := List.mem_map.mp hk
  have : y ≠ x := fun e => h (e ▸ hy)
  simpa using this
theorem kmap_put {ks : List Str} {f : Str → D} {x : Str} {d : D} (h : x ∉ ks) (e : d = f x) : putD (kmap ks f) (.inr x) d = kmap (ks ++ [x]) f := by
  rw [putD_new, kmap, kmap, List.map_append, e] <;> try rfl
  intro kv hk e
  obtain ⟨y, hy, rfl⟩ := List.mem_map.mp hk
  exact h (Sum.inr.inj e ▸ hy)
theorem len_of_subA {α : Type} [DecidableEq α] : ∀ {l m : List α}, l.Nodup → (∀ x ∈ l, x ∈ m) → l.length ≤ m.length
  | [], m, _, _ => Nat.zero_le _
  | a :: l, m, n, h => by
    obtain ⟨n1, n2⟩ := List.nodup_cons.mp n
    have ha := h a (by simp)
    have ih := len_of_subA (l := l) (m := m.erase a) n2 fun x hx => by
      have hxa : x ≠ a := fun e => n1 (by rw [← e]; exact hx)
      exact (List.mem_erase_of_ne hxa).mpr (h x (List.mem_cons_of_mem _ hx))
    rw [List.length_erase_of_mem ha] at ih
    have := List.length_pos_of_mem ha
    rw [List.length_cons]
    omega
/-! ### away from a start -/
def Tr.away (T : Tr) (d : Str → Str → Int) (s x : Str) : List (Str × Int) := (T.near x).filter fun p => decide (d s p.1 = d s x + p.2)
theorem mem_away {T : Tr} {d : Str → Str → Int} {s x y : Str} {l : Int} : (y, l) ∈ T.away d s x ↔ (y, l) ∈ T.adj x ∧ d s y = d s x + l := by
  unfold Tr.away
  rw [List.mem_filter]
  show (y, l) ∈ sort2 (T.adj x) ∧ decide (d s y = d s x + l) = true ↔ _
  rw [(sort2_perm _).mem_iff, decide_eq_true_iff]
def awayD (T : Tr) (d : Str → Str → Int) (s x : Str) : D := .lst ((T.away d s x).map nodeD)
/-- all nodes, each behind the one on its way from the start -/
structure IsWays (T : Tr) (d : Str → Str → Int) (s : Str) (ks : List Str) : Prop where
  nd : ks.Nodup
  mem : ∀ x, x ∈ ks ↔ x ∈ T.names
  ord : ∀ l1 x l2, ks = l1 ++ x :: l2 → x = s ∨ ∃ v ∈ l1, ∃ l, (x, l) ∈ T.away d s v
/-- while it goes on: those that are done; those that wait, with the one that they were come to from -/
structure SrchA (T : Tr) (d : Str → Str → Int) (s : Str) (ks : List Str) (fr : List (Str × Option Str)) : Prop where
  nd : (ks ++ fr.map (·.1)).Nodup
  sub : ∀ x ∈ ks ++ fr.map (·.1), x ∈ T.names
  wt : ∀ x b, (x, b) ∈ fr → (b = none ∧ x = s) ∨ ∃ v ∈ ks, b = some v ∧ ∃ l, (x, l) ∈ T.away d s v
  ord : ∀ l1 x l2, ks = l1 ++ x :: l2 → x = s ∨ ∃ v ∈ l1, ∃ l, (x, l) ∈ T.away d s v
  cl : ∀ x ∈ ks, ∀ y l, (y, l) ∈ T.away d s x → y ∈ ks ++ fr.map (·.1)
  st : s ∈ ks ++ fr.map (·.1)
theorem SrchA.len {T : Tr} {d : Str → Str → Int} {s : Str} {ks : List Str} {fr : List (Str × Option Str)} (h : SrchA T d s ks fr) : ks.length + fr.length ≤ T.nodes.length := by
  have := len_of_subA h.nd h.sub
  simpa [Tr.names] using this
theorem away_one {T : Tr} {d : Str → Str → Int} (M : Met T d) {s x v w : Str} {l k : Int} (hs : s ∈ T.names) (h : (x, l) ∈ T.away d s v) (g : (x, k) ∈ T.away d s w) : v = w := by
  obtain ⟨h1, h2⟩ := mem_away.mp h
  obtain ⟨g1, g2⟩ := mem_away.mp g
  exact M.uniq hs (M.sym h1) (M.sym g1) h2 g2
theorem away_ne {T : Tr} {d : Str → Str → Int} (M : Met T d) {s x v : Str} {l : Int} (h : (x, l) ∈ T.away d s v) : x ≠ s := fun e => by
  obtain ⟨h1, h2⟩ := mem_away.mp h
  subst e
  have := M.d0 x
  have := M.pos x v
  have := (M.mem h1).2.2.1
  omega
theorem away_nd {T : Tr} {d : Str → Str → Int} (M : Met T d) {s x : Str} : ((T.away d s x).map (·.1)).Nodup := by
  have h : (T.away d s x).Sublist (T.near x) := List.filter_sublist
  have := ((sort2_perm (T.adj x)).map (·.1)).nodup_iff.mpr (M.adjNd x)
  exact this.sublist (h.map _)
theorem SrchA.turn {T : Tr} {d : Str → Str → Int} {s x : Str} {b : Option Str} {ks : List Str} {fs : List (Str × Option Str)} (M : Met T d) (hs : s ∈ T.names) (h : SrchA T d s ks (fs ++ [(x, b)])) :
    SrchA T d s (ks ++ [x]) (fs ++ (T.away d s x).map fun p => (p.1, some x)) := by
  have e1 : ((fs ++ [(x, b)]).map (·.1)) = fs.map (·.1) ++ [x] := by simp
  have e2 : ((fs ++ (T.away d s x).map fun p => ((p.1, some x) : Str × Option Str)).map (·.1)) = fs.map (·.1) ++ (T.away d s x).map (·.1) := by
    rw [List.map_append, List.map_map]
    rfl
  have nd := h.nd
  rw [e1] at nd
  have xk : x ∉ ks := fun z => (List.nodup_append.mp nd).2.2 x z x (by simp) rfl
  have xf : x ∉ fs.map (·.1) := fun z => (List.nodup_append.mp (List.nodup_append.mp nd).2.1).2.2 x z x (by simp) rfl
  -- who is beyond x is new
  have new : ∀ y l, (y, l) ∈ T.away d s x → y ∉ ks ∧ y ∉ fs.map (·.1) ∧ y ≠ x := fun y l hy => by
    refine ⟨fun z => ?_, fun z => ?_, fun e => (M.mem (mem_away.mp hy).1).2.2.2 e⟩
    · obtain ⟨l1, l2, e⟩ := List.append_of_mem z
      rcases h.ord l1 y l2 e with q | ⟨v, hv, k, hk⟩
      · exact away_ne M hy q
      · have := away_one M hs hy hk
        subst this
        exact xk (by rw [e]; simp [hv])
    · obtain ⟨⟨y', c⟩, z1, z2⟩ := List.mem_map.mp z
      have z2 : y' = y := z2
      subst z2
      rcases h.wt y' c (by simp [z1]) with q | ⟨v, hv, _, k, hk⟩
      · exact away_ne M hy q.2
      · have := away_one M hs hy hk
        subst this
        exact xk hv
  refine ⟨?_, fun z hz => ?_, fun y c hy => ?_, fun l1 y l2 e => ?_, fun y hy w k hw => ?_, ?_⟩
  · rw [e2]
    have aw := away_nd (s := s) (x := x) M
    have p : (ks ++ [x] ++ (fs.map (·.1) ++ (T.away d s x).map (·.1))).Perm ((ks ++ (fs.map (·.1) ++ [x])) ++ (T.away d s x).map (·.1)) := by
      rw [List.append_assoc, List.append_assoc]
      refine List.Perm.append_left _ ?_
      rw [← List.append_assoc]
      exact List.perm_append_comm.append_right _
    refine p.nodup_iff.mpr (List.nodup_append.mpr ⟨nd, aw, fun a ha c hc e => ?_⟩)
    obtain ⟨⟨y, l⟩, z1, z2⟩ := List.mem_map.mp hc
    have z2 : y = c := z2
    subst z2
    obtain ⟨n1, n2, n3⟩ := new y l z1
    rw [e] at ha
    rcases List.mem_append.mp ha with ha | ha
    · exact n1 ha
    · rcases List.mem_append.mp ha with ha | ha
      · exact n2 ha
      · exact n3 (List.mem_singleton.mp ha)
  · rw [e2] at hz
    rcases List.mem_append.mp hz with hz | hz
    · rcases List.mem_append.mp hz with hz | hz
      · exact h.sub z (by simp [hz])
      · exact h.sub z (by simp [List.mem_singleton.mp hz])
    · rcases List.mem_append.mp hz with hz | hz
      · exact h.sub z (by rw [e1]; simp only [List.mem_append]; exact .inr (.inl hz))
      · obtain ⟨⟨y, l⟩, z1, z2⟩ := List.mem_map.mp hz
        have z2 : y = z := z2
        subst z2
        exact (M.mem (mem_away.mp z1).1).2.1
  · rcases List.mem_append.mp hy with hy | hy
    · rcases h.wt y c (by simp [hy]) with q | ⟨v, hv, q⟩
      · exact .inl q
      · exact .inr ⟨v, by simp [hv], q⟩
    · obtain ⟨⟨w, l⟩, z1, z2⟩ := List.mem_map.mp hy
      cases z2
      exact .inr ⟨x, by simp, rfl, l, z1⟩
  · rcases List.eq_nil_or_concat l2 with q | ⟨r, z, q⟩
    · subst q
      obtain ⟨q1, q2⟩ := List.append_inj' e rfl
      cases q2
      subst q1
      rcases h.wt x b (by simp) with q | ⟨v, hv, _, q⟩
      · exact .inl q.2
      · exact .inr ⟨v, hv, q⟩
    · subst q
      rw [List.concat_eq_append, ← List.cons_append, ← List.append_assoc] at e
      obtain ⟨q1, q2⟩ := List.append_inj' e rfl
      exact h.ord l1 y r q1
  · rw [e2]
    rcases List.mem_append.mp hy with hy | hy
    · have := h.cl y hy w k hw
      rw [e1] at this
      simp only [List.mem_append] at this ⊢
      rcases this with q | q | q
      · exact .inl (.inl q)
      · exact .inr (.inl q)
      · exact .inl (.inr q)
    · cases List.mem_singleton.mp hy
      simp only [List.mem_append]
      exact .inr (.inr (List.mem_map.mpr ⟨_, hw, rfl⟩))
  · have := h.st
    rw [e1] at this
    rw [e2]
    simp only [List.mem_append] at this ⊢
    rcases this with q | q | q
    · exact .inl (.inl q)
    · exact .inr (.inl q)
    · exact .inl (.inr q)
theorem SrchA.done {T : Tr} {d : Str → Str → Int} {s : Str} {ks : List Str} (M : Met T d) (hs : s ∈ T.names) (h : SrchA T d s ks []) : IsWays T d s ks := by
  have st : s ∈ ks := by simpa using h.st
  refine ⟨by simpa using h.nd, fun x => ⟨fun hx => h.sub x (by simp [hx]), ?_⟩, h.ord⟩
  have go : ∀ (n : Nat) (x : Str), x ∈ T.names → (d s x).toNat = n → x ∈ ks := by
    intro n
    induction n using Nat.strongRecOn with
    | ind n ih =>
      intro x hx e
      by_cases c : s = x
      · subst c
        exact st
      · obtain ⟨v, l, hv, ev⟩ := M.par hs hx c
        obtain ⟨_, hvn, hl, _⟩ := M.mem hv
        have := M.pos s v
        simpa using h.cl v (ih _ (by omega) v hvn rfl) x l (mem_away.mpr ⟨M.sym hv, ev⟩)
  exact fun hx => go _ x hx rfl
theorem treeA_imm (T : Tr) : (treeD T).imm = true := by
  show (immA (T.nodes.map nodeD) && (immA (T.edges.map edgeD) && true)) = true
  rw [immA_map (fun _ => rfl), immA_map (fun _ => rfl)] <;> rfl
theorem treeA_args (T : Tr) (s : Str) : immA [treeD T, .str s] = true := by
  show ((treeD T).imm && (true && true)) = true
  rw [treeA_imm] <;> rfl
/-! ### away_from -/
def optS : Option Str → D
  | none => .non
  | some x => .str x
def frD (p : Str × Option Str) : D := .tup [.str p.1, optS p.2]
/-! away_from: some_tree 0, start 1, ways 2, fresh 3, name 4, before 5, other 6, length 7, _ 8 -/
def N_away_from : List Str := ["some_tree", "start", "ways", "fresh", "name", "before", "other", "length", "_"]
def t_away_from_1 : ST := (sRetL (eVar 2))
def t_away_from : ST := (sSeq (sSet 2 eDicN)
  (sSeq (sSet 3 (eLst (iCons (eTup (iCons (eVar 1) (iCons (eC .non) aNil))) aNil)))
  (sSeq (sForget [1, 4, 5] (sWhile (bTru (eVar 3)) (sSeq (sPop 3 (tTup (fits 2 (tsCons (tName 4) (tsCons (tName 5) tsNil)))))
  (sSeq (sAsg (eLc (itSeq (eCall sp_neighbors (aCons (eVar 0) (aCons (eVar 4) aNil)))) [6, 7] (tTup (fits 2 (tsCons (tName 6) (tsCons (tName 7) tsNil)))) (bCmp fNe (eVar 6) (eVar 5)) (eTup (iCons (eVar 6) (iCons (eVar 7) aNil)))) (tSub 2 (eVar 4)))
  (sExt 3 (eLc (itSeq (eOp fIx (eVar 2) (eVar 4))) [6, 8] (tTup (fits 2 (tsCons (tName 6) (tsCons (tName 8) tsNil)))) bYes (eTup (iCons (eVar 6) (iCons (eVar 4) aNil))))))) [1, 4, 5]))
  t_away_from_1)))
/-- a tree that lies within the nodes and edges -/
def sp_away_from : SpT := fun ds e q => ∃ F T d s, ds = [treeD F, .str s] ∧ (Met T d ∧ ∀ x ∈ T.names, F.near x = T.near x) ∧ Small F ∧ Small T ∧ s ∈ T.names ∧ ∀ ks, IsWays T d s ks → q (.dic (kmap ks (awayD T d s)))
theorem len_away_from : ∀ ds e q, sp_away_from ds e q → ds.length = ["some_tree", "start"].length := by
  rintro _ e q ⟨F, T, d, s, rfl, _⟩
  rfl
theorem bNe_opt {i j : Nat} {δ : DSt} {e : XQ} {y : Str} {b : Option Str} {q : Bool → Prop} (h1 : getS δ i = .sh (.str y)) (h2 : getS δ j = .sh (optS b)) (h : q (decide (b ≠ some y))) : bCmp fNe (eVar i) (eVar j) e δ q := by
  unfold bCmp eVar
  rw [h1]
  show (match getS δ j with | .un => False | .sh d => _ | .fr d => _ | .ow d => _ | .ex _ _ _ => False)
  rw [h2]
  cases b with
  | none => exact h
  | some v =>
    show q (!(decide (y = v)))
    have : (!(decide (y = v))) = decide (some v ≠ some y) := by
      by_cases e : y = v
      · subst e; simp
      · have : v ≠ y := fun z => e z.symm
        simp [e, this]
    rw [this]
    exact h
theorem m_away_from : ∀ ds e q, sp_away_from ds e q → t_away_from { nx := fun _ => q .non, rt := q, xe := fun x _ => e x, lent := True } (startD N_away_from ds) := by
  rintro _ e q ⟨F, T, d, s, rfl, ⟨M, hF⟩, hsF, hsm, hs, h⟩
  refine ⟨show 2 ≤ sizeLine by decide, show 1 ≤ sizeLine by decide, ?_⟩
  refine ⟨fun m δ => ∃ ks fr, δ = [.sh (treeD F), .un, .ow (.dic (kmap ks (awayD T d s))), .ow (.lst (fr.map frD)), .un, .un, .un, .un, .un] ∧ SrchA T d s ks fr ∧ m = T.nodes.length - ks.length,
    ⟨_, [], [(s, none)], rfl, ⟨by simp, fun x hx => by simpa [show x = s by simpa using hx] using hs, fun x b hx => ?_, fun l1 x l2 e => ?_, fun x hx => (nomatch hx), by simp⟩, rfl⟩, ?_⟩
  · cases List.mem_singleton.mp hx
    exact .inl ⟨rfl, rfl⟩
  · simp at e
  rintro m δ ⟨ks, fr, rfl, hS, rfl⟩
  refine ite2D (fun c => ?_) (fun c => ?_)
  · -- a turn
    have c : (!(fr.map frD).isEmpty) = true := c
    obtain ⟨fs, ⟨x, b⟩, rfl⟩ : ∃ r a, fr = r ++ [a] := by
      rcases List.eq_nil_or_concat fr with e | ⟨r, a, e⟩
      · subst e
        cases c
      · exact ⟨r, a, by rw [e, List.concat_eq_append]⟩
    have hx : x ∈ T.names := hS.sub x (by simp)
    refine ⟨frD (x, b), ?_, ?_⟩
    · show ((fs ++ [(x, b)]).map frD)[((fs ++ [(x, b)]).map frD).length - 1]? = _
      simp
    have e1 : ((fs ++ [(x, b)]).map frD).dropLast = fs.map frD := by simp
    have S2 := hS.turn M hs
    have l1 := hS.len
    have l2 := S2.len
    rw [List.length_append, List.length_singleton] at l1 l2
    refine ⟨rfl, ?_⟩
    show ∃ _, _
    refine ⟨F, x, rfl, hsF, ?_⟩
    rw [hF x hx]
    have nl : (T.near x).length ≤ 1000 := by
      unfold Tr.near
      rw [(sort2_perm _).length_eq]
      exact hsm.adj x
    refine ⟨⟨⟨trivial, trivial, trivial⟩, by rw [List.length_map]; exact line1000 nl⟩, ?_⟩
    -- who is not the one before lies away
    have who : ∀ p ∈ T.near x, (b ≠ some p.1) ↔ d s p.1 = d s x + p.2 := by
      rintro ⟨y, l⟩ hp
      have hy : (y, l) ∈ T.adj x := (sort2_perm _).mem_iff.mp hp
      show b ≠ some y ↔ d s y = d s x + l
      constructor
      · intro hb
        rcases M.step hs hy with q | q
        · exact q
        · rcases hS.wt x b (by simp) with z | ⟨v, hv, rfl, k, hk⟩
          · exact absurd (z.2 ▸ rfl : x = s) fun e => by
              subst e
              have := M.d0 x
              have := M.pos x y
              have := (M.mem hy).2.2.1
              omega
          · obtain ⟨k1, k2⟩ := mem_away.mp hk
            exact absurd (congrArg some (M.uniq hs (M.sym k1) hy k2 q)) hb
      · intro q hb
        rcases hS.wt x b (by simp) with z | ⟨v, hv, e, k, hk⟩
        · rw [z.1] at hb
          cases hb
        · rw [e] at hb
          cases hb
          obtain ⟨k1, k2⟩ := mem_away.mp hk
          have := (M.mem hy).2.2.1
          have := (M.mem k1).2.2.1
          omega
    have eA : T.away d s x = (T.near x).filter fun p => decide (b ≠ some p.1) := by
      unfold Tr.away
      exact List.filter_congr fun p hp => decide_eq_decide.mpr (who p hp).symm
    refine lcR_flt nodeD (fun p => decide (b ≠ some p.1)) nodeD (T.near x) (fun p hp A B h1 h2 => ?_) _ ?_
    · refine ⟨rfl, ?_⟩
      dsimp only [tsCons, tName, tsNil, Gv.within]
      refine bNe_opt (i := 6) (j := 5) (y := p.1) (b := b) ?_ ?_ ?_
      · rfl
      · rfl
      refine ite2D (fun c => ?_) fun c => h2 c
      exact ⟨show 2 ≤ sizeLine by decide, h1 c⟩
    rw [← eA]
    have xk : x ∉ ks := fun z => by
      have := hS.nd
      rw [List.map_append] at this
      exact (List.nodup_append.mp this).2.2 x z x (by simp) rfl
    have kp : putD (kmap ks (awayD T d s)) (.inr x) (.lst ((T.away d s x).map nodeD)) = kmap (ks ++ [x]) (awayD T d s) := kmap_put xk rfl
    have aw : (T.away d s x).length ≤ 1000 := Nat.le_trans (List.length_filter_le _ _) nl
    refine ⟨(fun z => nomatch z), ?_⟩
    show _ ∧ _
    refine ⟨by show (kmap ks (awayD T d s)).length < sizeLine; unfold kmap; rw [List.length_map]; exact lt1000 (by have := hsm.1; omega), ?_⟩
    refine ⟨awayD T d s x, ?_, ⟨⟨trivial, trivial, trivial⟩, by rw [List.length_map]; exact line1000 aw⟩, ?_⟩
    · show lookD (putD (kmap ks (awayD T d s)) (.inr x) (.lst ((T.away d s x).map nodeD))) (.inr x) = _
      rw [kp]
      exact kmap_look (by simp)
    refine lcR_map nodeD (fun p => frD (p.1, some x)) (fun p q hq => ⟨rfl, show 2 ≤ sizeLine by decide, hq .fz (fun z => nomatch z)⟩) _ _ ?_
    refine ⟨rfl, ?_, ?_⟩
    · rw [e1, List.length_map, List.length_map]
      exact line1000 (by have := hsm.1; rw [List.length_append, List.length_map] at l2; omega)
    · refine ⟨T.nodes.length - (ks ++ [x]).length, by rw [List.length_append, List.length_singleton]; omega, ks ++ [x], fs ++ (T.away d s x).map fun p => (p.1, some x), ?_, S2, rfl⟩
      show [Sl.sh (treeD F), .un, .ow (.dic (putD (kmap ks (awayD T d s)) (.inr x) (.lst ((T.away d s x).map nodeD)))), .ow (.lst (((fs ++ [(x, b)]).map frD).dropLast ++ (T.away d s x).map fun p => frD (p.1, some x))), .un, .un, .un, .un, .un] = _
      rw [kp, e1, List.map_append, List.map_map]
      rfl
  · -- the end
    have c : (!(fr.map frD).isEmpty) = false := c
    have : fr = [] := by
      cases fr with
      | nil => rfl
      | cons a r => cases c
    subst this
    exact ⟨⟨trivial, rfl⟩, h ks (hS.done M hs)⟩
end DL

set_option Elab.async false
set_option linter.all false
set_option maxRecDepth 100000
namespace DL
open PySem PySem.Spec PyProof.Rows L2

/-! ### distances_from -/
theorem len_of_sub {α : Type} [DecidableEq α] : ∀ {l m : List α}, l.Nodup → (∀ x ∈ l, x ∈ m) → l.length ≤ m.length
  | [], m, _, _ => Nat.zero_le _
  | a :: l, m, n, h => by
    obtain ⟨n1, n2⟩ := List.nodup_cons.mp n
    have ha := h a (by simp)
    have ih := len_of_sub (l := l) (m := m.erase a) n2 fun x hx => by
      have hxa : x ≠ a := fun e => n1 (by rw [← e]; exact hx)
      exact (List.mem_erase_of_ne hxa).mpr (h x (List.mem_cons_of_mem _ hx))
    rw [List.length_erase_of_mem ha] at ih
    have := List.length_pos_of_mem ha
    rw [List.length_cons]
    omega
def keysF (far : List (Str × Int)) : List Str := far.map (·.1)
structure IsFar (T : Tr) (d : Str → Str → Int) (s : Str) (far : List (Str × Int)) : Prop where
  nd : (keysF far).Nodup
  mem : ∀ x, x ∈ keysF far ↔ x ∈ T.names
  val : ∀ x v, (x, v) ∈ far → v = d s x
/-! distances_from: some_tree 0, start 1, far 2, name 3, ways 4, other 5, length 6 -/
def N_distances_from : List Str := ["some_tree", "start", "far", "name", "ways", "other", "length"]
def t_distances_from_1 : ST := (sRet (eVar 2))
def t_distances_from : ST := (sSeq (sSet 2 (eDisp [((eVar 1), (eC (.int 0)))]))
  (sSeq (sForget [3, 4, 5, 6] (sFor (itItems (eCallM sp_away_from (aCons (eVar 0) (aCons (eVar 1) aNil)))) (tTup (fits 2 (tsCons (tName 3) (tsCons (tName 4) tsNil)))) (sForget [0, 1, 5, 6] (sFor (itSeq (eVar 4)) (tTup (fits 2 (tsCons (tName 5) (tsCons (tName 6) tsNil)))) (sAsg (eOp fAdd (eOp fIx (eVar 2) (eVar 3)) (eVar 6)) (tSub 2 (eVar 5))) [0, 1, 4, 5, 6])) [0, 1, 3, 4, 5, 6]))
  t_distances_from_1))
def sp_distances_from : SpT := fun ds e q => ∃ T d s, ds = [treeD T, .str s] ∧ Met T d ∧ Small T ∧ s ∈ T.names ∧ ∀ far, IsFar T d s far → q (farD far)
theorem len_distances_from : ∀ ds e q, sp_distances_from ds e q → ds.length = ["some_tree", "start"].length := by
  rintro _ e q ⟨T, d, s, rfl, _⟩
  rfl
theorem far_look {far : List (Str × Int)} (hn : (keysF far).Nodup) {x : Str} {v : Int} (h : (x, v) ∈ far) : lookD (far.map fun p => (.inr p.1, .int p.2)) (.inr x) = some (.int v) := lookD_map hn h
theorem mem_key {far : List (Str × Int)} {x : Str} (h : x ∈ keysF far) : ∃ v, (x, v) ∈ far := by
  obtain ⟨⟨y, v⟩, h1, h2⟩ := List.mem_map.mp h
  cases h2
  exact ⟨v, h1⟩
theorem key_mem {far : List (Str × Int)} {x : Str} {v : Int} (h : (x, v) ∈ far) : x ∈ keysF far := List.mem_map.mpr ⟨_, h, rfl⟩
theorem snoc_of {α : Type} {l : List α} (h : (!l.isEmpty) = true) : ∃ r a, l = r ++ [a] := by
  rcases List.eq_nil_or_concat l with e | ⟨r, a, e⟩
  · subst e
    cases h
  · exact ⟨r, a, by rw [e, List.concat_eq_append]⟩
/-- .. of a tree that lies within the nodes and edges -/
def sp_distances_fromF : SpT := fun ds e q => ∃ F T d s, ds = [treeD F, .str s] ∧ (Met T d ∧ ∀ x ∈ T.names, F.near x = T.near x) ∧ Small F ∧ Small T ∧ s ∈ T.names ∧ ∀ far, IsFar T d s far → q (farD far)
theorem len_distances_fromF : ∀ ds e q, sp_distances_fromF ds e q → ds.length = ["some_tree", "start"].length := by
  rintro _ e q ⟨F, T, d, s, rfl, _⟩
  rfl
/-- what is known when some nodes are done, and some of those beyond the next one -/
structure FarTo (T : Tr) (d : Str → Str → Int) (V : Str → Int) (s : Str) (done : List Str) (more : List (Str × Int)) (far : List (Str × Int)) : Prop where
  nd : (keysF far).Nodup
  val : ∀ x v, (x, v) ∈ far → v = V x
  keys : ∀ y, y ∈ keysF far ↔ (y = s ∨ ∃ v ∈ done, ∃ l, (y, l) ∈ T.away d s v) ∨ ∃ l, (y, l) ∈ more
section
variable {T : Tr} {d : Str → Str → Int} {V : Str → Int} {s : Str} {done r ks : List Str} {more far q : List (Str × Int)} {x y : Str} {l : Int}
theorem FarTo.sub (M : Met T d) (hs : s ∈ T.names) (hm : ∀ p ∈ more, p ∈ T.away d s x) (h : FarTo T d V s done more far) : ∀ y ∈ keysF far, y ∈ T.names := by
  intro y hy
  rcases (h.keys y).mp hy with (rfl | ⟨v, _, l, hl⟩) | ⟨l, hl⟩
  · exact hs
  · exact (M.mem (mem_away.mp hl).1).2.1
  · exact (M.mem (mem_away.mp (hm _ hl)).1).2.1
theorem FarTo.start : FarTo T d V s [] [] [(s, V s)] := by
  refine ⟨by simp [keysF], fun x v hx => ?_, fun y => ?_⟩
  · cases List.mem_singleton.mp hx
    rfl
  · constructor
    · intro hy
      exact .inl (.inl (by simpa [keysF] using hy))
    · rintro ((q | ⟨v, hv, _⟩) | ⟨l, hl⟩)
      · simp [keysF, q]
      · cases hv
      · cases hl
theorem IsWays.notDone (hk : IsWays T d s ks) (ek : ks = done ++ x :: r) : x ∉ done := fun z => by
  have := hk.nd
  rw [ek] at this
  exact (List.nodup_append.mp this).2.2 x z x (by simp) rfl
theorem FarTo.key (hk : IsWays T d s ks) (ek : ks = done ++ x :: r) (h : FarTo T d V s done more far) : x ∈ keysF far := (h.keys x).mpr (.inl (by
  rcases hk.ord done x r ek with q | ⟨v, hv, l, hl⟩
  · exact .inl q
  · exact .inr ⟨v, hv, l, hl⟩))
theorem FarTo.got (h : FarTo T d V s done more far) (hx : x ∈ keysF far) : lookD (far.map fun p => (.inr p.1, .int p.2)) (.inr x) = some (.int (V x)) := by
  obtain ⟨v, hv⟩ := mem_key hx
  have ev := h.val x v hv
  subst ev
  exact far_look h.nd hv
theorem FarTo.next (h : FarTo T d V s done (T.away d s x) far) : FarTo T d V s (done ++ [x]) [] far := by
  refine ⟨h.nd, h.val, fun y => ?_⟩
  rw [h.keys y]
  constructor
  · rintro ((q | ⟨v, hv, l, hl⟩) | ⟨l, hl⟩)
    · exact .inl (.inl q)
    · exact .inl (.inr ⟨v, by simp [hv], l, hl⟩)
    · exact .inl (.inr ⟨x, by simp, l, hl⟩)
  · rintro ((q | ⟨v, hv, l, hl⟩) | ⟨l, hl⟩)
    · exact .inl (.inl q)
    · rcases List.mem_append.mp hv with hv | hv
      · exact .inl (.inr ⟨v, hv, l, hl⟩)
      · cases List.mem_singleton.mp hv
        exact .inr ⟨l, hl⟩
    · cases hl
theorem FarTo.new (M : Met T d) (hs : s ∈ T.names) (xd : x ∉ done) (em : T.away d s x = more ++ (y, l) :: q) (h : FarTo T d V s done more far) : y ∉ keysF far := fun z => by
  have hl : (y, l) ∈ T.away d s x := by rw [em]; simp
  have nd := away_nd (s := s) (x := x) M
  rcases (h.keys y).mp z with (q | ⟨v, hv, k, hk'⟩) | ⟨k, hk'⟩
  · exact away_ne M hl q
  · have := away_one M hs hl hk'
    subst this
    exact xd hv
  · rw [em, List.map_append, List.map_cons] at nd
    exact (List.nodup_append.mp nd).2.2 y (List.mem_map.mpr ⟨_, hk', rfl⟩) y (by simp) rfl
theorem FarTo.size (M : Met T d) (hs : s ∈ T.names) (em : T.away d s x = more ++ q) (h : FarTo T d V s done more far) : far.length ≤ T.nodes.length := by
  have := len_of_sub h.nd (h.sub M hs (x := x) fun p hp => by rw [em]; simp [hp])
  simpa [keysF, Tr.names] using this
theorem FarTo.put (hn : y ∉ keysF far) (h : FarTo T d V s done more far) : FarTo T d V s done (more ++ [(y, l)]) (far ++ [(y, V y)]) := by
  refine ⟨?_, fun z w hz => ?_, fun z => ?_⟩
  · have : keysF (far ++ [(y, V y)]) = keysF far ++ [y] := by simp [keysF]
    rw [this]
    exact List.nodup_append.mpr ⟨h.nd, by simp, fun a ha b hb eq => hn (by rw [← List.mem_singleton.mp hb, ← eq]; exact ha)⟩
  · rcases List.mem_append.mp hz with hz | hz
    · exact h.val z w hz
    · cases List.mem_singleton.mp hz
      rfl
  · have : z ∈ keysF (far ++ [(y, V y)]) ↔ z ∈ keysF far ∨ z = y := by simp [keysF]
    rw [this, h.keys z]
    constructor
    · rintro ((q | ⟨k, q⟩) | q)
      · exact .inl q
      · exact .inr ⟨k, by simp [q]⟩
      · subst q
        exact .inr ⟨l, by simp⟩
    · rintro (q | ⟨k, q⟩)
      · exact .inl (.inl q)
      · rcases List.mem_append.mp q with q | q
        · exact .inl (.inr ⟨k, q⟩)
        · cases List.mem_singleton.mp q
          exact .inr rfl
theorem FarTo.all (M : Met T d) (hs : s ∈ T.names) (hk : IsWays T d s ks) (h : FarTo T d V s ks [] far) : ∀ x, x ∈ keysF far ↔ x ∈ T.names := fun x => ⟨h.sub (x := s) M hs (fun _ z => absurd z List.not_mem_nil) x, fun hx => by
  obtain ⟨l1, l2, e⟩ := List.append_of_mem ((hk.mem x).mpr hx)
  refine (h.keys x).mpr (.inl ?_)
  rcases hk.ord l1 x l2 e with q | ⟨v, hv, l, hl⟩
  · exact .inl q
  · exact .inr ⟨v, by rw [e]; simp [hv], l, hl⟩⟩
theorem items_ways : itemsD (kmap ks (awayD T d s)) = ks.map fun x => .tup [.str x, awayD T d s x] := by
  unfold itemsD kmap
  rw [List.map_map]
  rfl
end
theorem m_distances_fromF : ∀ ds e q, sp_distances_fromF ds e q → t_distances_from { nx := fun _ => q .non, rt := q, xe := fun x _ => e x } (startD N_distances_from ds) := by
  rintro _ e q ⟨F, T, d, s, rfl, ⟨M, hF⟩, hsF, hsm, hs, h⟩
  refine ⟨show 1 ≤ 15 by decide, ?_⟩
  refine ⟨treeA_args F s, F, T, d, s, rfl, ⟨M, hF⟩, hsF, hsm, hs, fun ks hk => ⟨rfl, ?_⟩⟩
  show forR .wk _ _ _ _ (itemsD (kmap ks (awayD T d s))) _
  rw [items_ways]
  have d0 := M.d0 s
  refine forR_map (fun x => D.tup [.str x, awayD T d s x]) (fun r δ => ∃ done, ks = done ++ r ∧ ∃ x0 x1 far, δ = [x0, x1, .ow (farD far), .un, .un, .un, .un] ∧ FarTo T d (d s) s done [] far) ?_ ?_ ks _ ⟨[], rfl, _, _, [(s, d s s)], by rw [d0] <;> rfl, FarTo.start⟩
  · rintro δ ⟨done, ek, x0, x1, far, rfl, hf⟩
    rw [List.append_nil] at ek
    subst ek
    refine ⟨?_, h far ⟨hf.nd, hf.all M hs hk, hf.val⟩⟩
    show immA ((far.map fun p => ((.inr p.1 : Key), D.int p.2)).map (·.2)) = true
    rw [List.map_map]
    exact immA_map (fun _ => rfl) _
  · rintro x r δ nx ⟨done, ek, x0, x1, far, rfl, hf⟩ hnx
    refine ⟨rfl, ?_⟩
    refine forR_map nodeD (fun q δ => ∃ more, T.away d s x = more ++ q ∧ ∃ x0 x1 x4 far, δ = [x0, x1, .ow (farD far), .sh (.str x), x4, .un, .un] ∧ FarTo T d (d s) s done more far) ?_ ?_ (T.away d s x) _ ⟨[], rfl, _, _, _, far, rfl, hf⟩
    · rintro δ ⟨more, em, x0, x1, x4, far', rfl, hf'⟩
      rw [List.append_nil] at em
      subst em
      exact hnx _ ⟨done ++ [x], by rw [ek]; simp, .un, .un, far', rfl, hf'.next⟩
    · rintro ⟨y, l⟩ q δ nx' ⟨more, em, x0, x1, x4, far', rfl, hf'⟩ hnx'
      have hn := hf'.new M hs (hk.notDone ek) em
      have hl : (y, l) ∈ T.away d s x := by rw [em]; simp
      refine ⟨rfl, .int (d s x), hf'.got (hf'.key hk ek), (fun z => nomatch z), ?_, ?_⟩
      · show (far'.map fun p => ((.inr p.1 : Key), D.int p.2)).length < sizeLine
        rw [List.length_map]
        exact lt1000 (Nat.le_trans (hf'.size M hs em) hsm.1)
      · refine hnx' _ ⟨more ++ [(y, l)], by rw [em]; simp, .un, .un, .un, far' ++ [(y, d s y)], ?_, hf'.put hn⟩
        show [Sl.un, .un, .ow (.dic (putD (far'.map fun p => (.inr p.1, .int p.2)) (.inr y) (.int (d s x + l)))), .sh (.str x), .un, .un, .un] = _
        rw [putD_map hn, (mem_away.mp hl).2] <;> rfl
theorem m_distances_from : ∀ ds e q, sp_distances_from ds e q → t_distances_from { nx := fun _ => q .non, rt := q, xe := fun x _ => e x } (startD N_distances_from ds) := by
  rintro _ e q ⟨T, d, s, rfl, M, hsm, hs, h⟩
  exact m_distances_fromF _ e q ⟨T, T, d, s, rfl, ⟨M, fun _ _ => rfl⟩, hsm, hsm, hs, h⟩
end DL

set_option Elab.async false
set_option linter.all false
set_option maxRecDepth 100000
namespace DL
open PySem PySem.Spec PyProof.Rows L2

theorem inD_strs (x : Str) (r : List Str) : inD (.str x) (r.map .str) = decide (x ∈ r) := by
  unfold inD
  rw [List.any_map]
  induction r with
  | nil => rfl
  | cons y r ih =>
    rw [List.any_cons, ih]
    show (decide (y = x) || decide (x ∈ r)) = _
    by_cases e : y = x
    · subst e
      simp
    · have e' : ¬ x = y := fun z => e z.symm
      simp [e, e']
theorem flat_strs (r : List Str) : (r.map D.str).all D.flat = true := by simp [D.flat]
/-! ### sorting of (distance, name) -/
def rankD (k : Str → Int) (x : Str) : D := .tup [.int (k x), .str x]
def sortK (k : Str → Int) (l : List Str) : List Str := l.mergeSort fun a b => leD (rankD k a) (rankD k b)
theorem sortK_map (k : Str → Int) (l : List Str) : sortD (l.map (rankD k)) = (sortK k l).map (rankD k) := (List.map_mergeSort (f := rankD k) (s := leD) (r := fun a b => leD (rankD k a) (rankD k b)) fun _ _ _ _ => rfl).symm
theorem sortK_perm (k : Str → Int) (l : List Str) : (sortK k l).Perm l := List.mergeSort_perm _ _
theorem leD_rank {k : Str → Int} {x y : Str} (h : leD (rankD k x) (rankD k y) = true) : k x ≤ k y := by
  unfold leD at h
  have h0 : lexS (keyL (rankD k y)) (keyL (rankD k x)) = false := by simpa using h
  have h : lexS [.inl (k y), .inr y.cps.toList] [.inl (k x), .inr x.cps.toList] = false := h0
  by_cases e : k y = k x
  · omega
  · rw [lexS, if_neg (fun z => e (Sum.inl.inj z))] at h
    have : ¬ k y < k x := of_decide_eq_false h
    omega
theorem sortK_asc (k : Str → Int) (l : List Str) : (sortK k l).Pairwise fun x y => k x ≤ k y :=
  (List.pairwise_mergeSort (le := fun a b => leD (rankD k a) (rankD k b)) (fun a b c => leD_trans _ _ _) (fun a b => leD_total _ _) l).imp leD_rank
theorem srtbK (k : Str → Int) (l : List Str) : SrtbD (l.map (rankD k)) := .inr ⟨true, [false], fun d hd => by
  obtain ⟨p, _, rfl⟩ := List.mem_map.mp hd
  exact ⟨_, rfl, rfl, rfl⟩⟩
theorem IsFar.look {T : Tr} {d : Str → Str → Int} {s : Str} {far : List (Str × Int)} (h : IsFar T d s far) {x : Str} (hx : x ∈ T.names) : lookD (far.map fun p => (.inr p.1, .int p.2)) (.inr x) = some (.int (d s x)) := by
  obtain ⟨v, hv⟩ := mem_key ((h.mem x).mpr hx)
  rw [far_look h.nd hv, h.val x v hv]
theorem IsFar.len {T : Tr} {d : Str → Str → Int} {s : Str} {far : List (Str × Int)} (h : IsFar T d s far) : far.length ≤ T.nodes.length := by
  have := len_of_sub h.nd fun x hx => (h.mem x).mp hx
  simpa [keysF, Tr.names] using this
def N_path : List Str := ["some_tree", "first", "second", "gone", "left", "found", "name", "_"]
def sp_path : SpT := fun ds e q => ∃ T d a b, ds = [treeD T, .str a, .str b] ∧ Met T d ∧ Small T ∧ a ∈ T.names ∧ b ∈ T.names ∧ ∀ r, IsPath T d a b r → q (strsD r)
def t_path : ST := (sSeq (sSet 3 (eCall sp_distances_from (aCons (eVar 0) (aCons (eVar 1) aNil))))
  (sSeq (sSet 4 (eCall sp_distances_from (aCons (eVar 0) (aCons (eVar 2) aNil))))
  (sSeq (sSet 5 (eLcK 3 [6] (tName 6) (bCmp fEq (eOp fAdd (eOp fIx (eVar 3) (eVar 6)) (eOp fIx (eVar 4) (eVar 6))) (eOp fIx (eVar 3) (eVar 2))) (eTup (iCons (eOp fIx (eVar 3) (eVar 6)) (iCons (eVar 6) aNil)))))
  (sRet (eLc (itSeq (eCB fSorted (aCons (eVar 5) aNil))) [7, 6] (tTup (fits 2 (tsCons (tName 7) (tsCons (tName 6) tsNil)))) bYes (eVar 6))))))
def N_distance : List Str := ["some_tree", "first", "second"]
def t_distance : ST := (sRet (eOp fIx (eCall sp_distances_from (aCons (eVar 0) (aCons (eVar 1) aNil))) (eVar 2)))
def N_meeting : List Str := ["some_tree", "first", "second", "third", "to_third", "past_first", "name"]
def t_meeting : ST := (sSeq (sSet 4 (eCall sp_path (aCons (eVar 0) (aCons (eVar 1) (aCons (eVar 3) aNil)))))
  (sSeq (sSet 5 (eCall sp_path (aCons (eVar 0) (aCons (eVar 2) (aCons (eVar 3) aNil)))))
  (sRet (eOp fIx (eLc (itSeq (eCall sp_path (aCons (eVar 0) (aCons (eVar 1) (aCons (eVar 2) aNil))))) [6] (tName 6) (bAnd (bCmp (fIn false) (eVar 6) (eVar 4)) (bCmp (fIn false) (eVar 6) (eVar 5))) (eVar 6)) (eC (.int 0))))))
theorem len_path : ∀ ds e q, sp_path ds e q → ds.length = ["some_tree", "first", "second"].length := by
  rintro _ e q ⟨T, d, a, b, rfl, _⟩
  rfl
theorem m_path : ∀ ds e q, sp_path ds e q → t_path { nx := fun _ => q .non, rt := q, xe := fun x _ => e x } (startD N_path ds) := by
  rintro _ e q ⟨T, d, a, b, rfl, M, hsm, ha, hb, h⟩
  refine ⟨T, d, a, rfl, M, hsm, ha, fun gone hg => ?_⟩
  refine ⟨T, d, b, rfl, M, hsm, hb, fun left hl => ?_⟩
  refine ⟨⟨⟨trivial, trivial⟩, by rw [List.length_map]; exact line1000 (Nat.le_trans hg.len hsm.1)⟩, ?_⟩
  have ek : (gone.map fun p => ((.inr p.1 : Key), D.int p.2)).map (fun kv => keyToD kv.1) = (keysF gone).map D.str := by simp [keysF, keyToD]
  rw [ek]
  let p : Str → Bool := fun x => decide (d a x + d b x = d a b)
  refine lcR_flt D.str p (rankD (d a)) (keysF gone) (fun x hx A B h1 h2 => ?_) _ ?_
  · have hxn := (hg.mem x).mp hx
    refine ⟨.int (d a x), hg.look hxn, .int (d b x), hl.look hxn, .int (d a b), hg.look hb, ite2D (fun c => ?_) (fun c => h2 c)⟩
    exact ⟨.int (d a x), hg.look hxn, show 2 ≤ sizeLine by decide, h1 c⟩
  · -- sorted
    refine ⟨srtbK _ _, ?_⟩
    show (noOw [7, 6] _ ∧ (sortD (((keysF gone).filter p).map (rankD (d a)))).length ≤ sizeLine) ∧ lcR _ _ _ _ _ (sortD (((keysF gone).filter p).map (rankD (d a)))) _
    rw [sortK_map]
    refine ⟨⟨⟨trivial, trivial, trivial⟩, ?_⟩, ?_⟩
    · rw [List.length_map, (sortK_perm _ _).length_eq]
      have := hg.len
      have := List.length_filter_le p (keysF gone)
      have e : (keysF gone).length = gone.length := by simp [keysF]
      exact line1000 (by have := hsm.1; omega)
    · refine lcR_map (rankD (d a)) D.str (fun x q hq => ⟨rfl, hq .fz (fun z => nomatch z)⟩) _ _ ?_
      refine ⟨immA_map (fun _ => rfl) _, h _ ?_⟩
      refine M.path_of ha hb ((sortK_perm _ _).nodup_iff.mpr (hg.nd.filter _)) (fun x => ?_) (sortK_asc _ _)
      rw [(sortK_perm _ _).mem_iff, List.mem_filter, hg.mem x]
      refine and_congr Iff.rfl ?_
      show decide _ = true ↔ _
      rw [decide_eq_true_iff]
      unfold On
      rw [M.symd x b]
def sp_distance : SpT := fun ds e q => ∃ T d a b, ds = [treeD T, .str a, .str b] ∧ Met T d ∧ Small T ∧ a ∈ T.names ∧ b ∈ T.names ∧ q (.int (d a b))
theorem len_distance : ∀ ds e q, sp_distance ds e q → ds.length = ["some_tree", "first", "second"].length := by
  rintro _ e q ⟨T, d, a, b, rfl, _⟩
  rfl
theorem m_distance : ∀ ds e q, sp_distance ds e q → t_distance { nx := fun _ => q .non, rt := q, xe := fun x _ => e x } (startD N_distance ds) := by
  rintro _ e q ⟨T, d, a, b, rfl, M, hsm, ha, hb, h⟩
  refine ⟨T, d, a, rfl, M, hsm, ha, fun gone hg => ?_⟩
  exact ⟨.int (d a b), hg.look hb, rfl, h⟩
def sp_meeting : SpT := fun ds e q => ∃ T d a b c, ds = [treeD T, .str a, .str b, .str c] ∧ Met T d ∧ Small T ∧ a ∈ T.names ∧ b ∈ T.names ∧ c ∈ T.names ∧ ∀ m, IsMeet T d a b c m → q (.str m)
theorem len_meeting : ∀ ds e q, sp_meeting ds e q → ds.length = ["some_tree", "first", "second", "third"].length := by
  rintro _ e q ⟨T, d, a, b, c, rfl, _⟩
  rfl
theorem IsPath.len {T : Tr} {d : Str → Str → Int} {a b : Str} {r : List Str} (h : IsPath T d a b r) : r.length ≤ T.nodes.length := by
  have := len_of_sub (l := r) (m := T.names) (h.asc.imp fun {x y} z e => by rw [e] at z; omega) fun x hx => ((h.mem x).mp hx).1
  simpa [Tr.names] using this
theorem m_meeting : ∀ ds e q, sp_meeting ds e q → t_meeting { nx := fun _ => q .non, rt := q, xe := fun x _ => e x } (startD N_meeting ds) := by
  rintro _ e q ⟨T, d, a, b, c, rfl, M, hsm, ha, hb, hc, h⟩
  refine ⟨T, d, a, c, rfl, M, hsm, ha, hc, fun r1 h1 => ?_⟩
  refine ⟨T, d, b, c, rfl, M, hsm, hb, hc, fun r2 h2 => ?_⟩
  refine ⟨T, d, a, b, rfl, M, hsm, ha, hb, fun r0 h0 => ?_⟩
  refine ⟨⟨⟨trivial, trivial⟩, by rw [List.length_map]; exact line1000 (Nat.le_trans h0.len hsm.1)⟩, ?_⟩
  let p : Str → Bool := fun x => decide (x ∈ r1) && decide (x ∈ r2)
  refine lcR_flt D.str p D.str r0 (fun x hx A B g1 g2 => ?_) _ ?_
  · refine ⟨⟨rfl, flat_strs _⟩, ?_⟩
    show if inD (.str x) (r1.map .str) = true then _ else _
    rw [inD_strs]
    refine ite2D (fun c1 => ?_) (fun c1 => ?_)
    · refine ⟨⟨rfl, flat_strs _⟩, ?_⟩
      show if inD (.str x) (r2.map .str) = true then _ else _
      rw [inD_strs]
      refine ite2D (fun c2 => g1 (by show (_ && _) = true; rw [c1, c2] <;> rfl)) fun c2 => g2 (by show (_ && _) = false; rw [c1, c2] <;> rfl)
    · show if false = true then _ else _
      exact itF (g2 (by show (_ && _) = false; rw [c1] <;> rfl))
  · obtain ⟨m, hm⟩ := M.meet ha hb hc
    have is : ∀ x, x ∈ r0.filter p ↔ IsMeet T d a b c x := fun x => by
      rw [List.mem_filter, h0.mem x]
      show _ ∧ (decide _ && decide _) = true ↔ _
      rw [Bool.and_eq_true, decide_eq_true_iff, decide_eq_true_iff, h1.mem x, h2.mem x]
      unfold IsMeet
      constructor
      · rintro ⟨⟨z1, z2⟩, ⟨_, z3⟩, _, z4⟩
        exact ⟨z1, z2, z4, z3⟩
      · rintro ⟨z1, z2, z3, z4⟩
        exact ⟨⟨z1, z2⟩, ⟨z1, z4⟩, z1, z3⟩
    have hin := (is m).mpr hm
    cases ef : r0.filter p with
    | nil =>
      rw [ef] at hin
      cases hin
    | cons y r =>
      have hy : IsMeet T d a b c y := (is y).mp (by rw [ef]; simp)
      refine ⟨.str y, ?_, rfl, h y hy⟩
      exact atI_nat (j := 0) rfl
end DL

set_option Elab.async false
set_option linter.all false
set_option maxRecDepth 100000
namespace DL
open PySem PySem.Spec PyProof.Rows L2

/-! ### for j in range(n) -/
theorem forR_upto {n : Nat} (Inv : Nat → DSt → Prop) {f : Gv} {tg : GT} {tb : ST} {fg : List Nat} {E : En} (h0 : ∀ δ, Inv n δ → E.nx δ)
    (h1 : ∀ i δ (nx : DSt → Prop), i < n → Inv i δ → (∀ δ', Inv (i + 1) δ' → nx δ') → tg f (.int (i : Int)) δ fun δ2 => tb { E with nx := fun δ' => nx (forget fg δ'), ct := fun δ' => nx (forget fg δ'), bk := E.nx } δ2) :
    ∀ (δ : DSt), Inv 0 δ → forR f tg tb fg E (rangeD 0 n) δ := by
  intro δ h
  have e : rangeD 0 n = (List.range' 0 n).map fun (i : Nat) => D.int (i : Int) := by
    unfold rangeD
    rw [List.range_eq_range']
    apply List.map_congr_left
    intro a _
    rw [Int.zero_add]
  rw [e]
  refine forR_map _ (fun r δ => ∃ i, r = List.range' i (n - i) ∧ i ≤ n ∧ Inv i δ) ?_ ?_ _ δ ⟨0, rfl, Nat.zero_le _, h⟩
  · rintro δ ⟨i, hr, hi, hI⟩
    have : n - i = 0 := by
      cases q : n - i with
      | zero => rfl
      | succ m =>
        rw [q] at hr
        cases hr
    have : i = n := by omega
    subst this
    exact h0 δ hI
  · rintro a r δ nx ⟨i, hr, hi, hI⟩ hnx
    cases q : n - i with
    | zero =>
      rw [q] at hr
      cases hr
    | succ m =>
      rw [q, List.range'_succ] at hr
      cases hr
      refine h1 a δ nx (by omega) hI fun δ' h' => hnx δ' ⟨a + 1, ?_, by omega, h'⟩
      congr 1
      omega
/-- for j in range(a, n) -/
theorem forR_from {a n : Nat} (Inv : Nat → DSt → Prop) {f : Gv} {tg : GT} {tb : ST} {fg : List Nat} {E : En} (h0 : ∀ i δ, n ≤ i → Inv i δ → E.nx δ)
    (h1 : ∀ i δ (nx : DSt → Prop), a ≤ i → i < n → Inv i δ → (∀ δ', Inv (i + 1) δ' → nx δ') → tg f (.int (i : Int)) δ fun δ2 => tb { E with nx := fun δ' => nx (forget fg δ'), ct := fun δ' => nx (forget fg δ'), bk := E.nx } δ2) :
    ∀ (δ : DSt), Inv a δ → forR f tg tb fg E (rangeD (a : Int) (n - a)) δ := by
  intro δ h
  have e : rangeD (a : Int) (n - a) = (List.range' 0 (n - a)).map fun (i : Nat) => D.int ((a + i : Nat) : Int) := by
    unfold rangeD
    rw [List.range_eq_range']
    rfl
  rw [e]
  refine forR_map _ (fun r δ => ∃ i, r = List.range' i (n - a - i) ∧ Inv (a + i) δ) ?_ ?_ _ δ ⟨0, rfl, h⟩
  · rintro δ ⟨i, hr, hI⟩
    have : n - a - i = 0 := by
      cases q : n - a - i with
      | zero => rfl
      | succ m =>
        rw [q] at hr
        cases hr
    exact h0 _ δ (by omega) hI
  · rintro b r δ nx ⟨i, hr, hI⟩ hnx
    cases q : n - a - i with
    | zero =>
      rw [q] at hr
      cases hr
    | succ m =>
      rw [q, List.range'_succ] at hr
      cases hr
      refine h1 (a + b) δ nx (by omega) (by omega) hI fun δ' h' => hnx δ' ⟨b + 1, ?_, h'⟩
      congr 1
      omega
/-! ### drawn digits -/
def intsD (ns : List Int) : D := .lst (ns.map .int)
/-- each digit below its size -/
def Bnd : List Int → List Int → Prop
  | [], [] => True
  | a :: as, s :: ss => (0 ≤ a ∧ a < s) ∧ Bnd as ss
  | _, _ => False
theorem Bnd.snoc {a s : Int} (h : 0 ≤ a ∧ a < s) : ∀ {as ss : List Int}, Bnd as ss → Bnd (as ++ [a]) (ss ++ [s])
  | [], [], _ => ⟨h, trivial⟩
  | b :: as, t :: ss, hb => ⟨hb.1, Bnd.snoc h hb.2⟩
  | [], _ :: _, hb => hb.elim
  | _ :: _, [], hb => hb.elim
theorem Bnd.len : ∀ {as ss : List Int}, Bnd as ss → as.length = ss.length
  | [], [], _ => rfl
  | b :: as, t :: ss, hb => congrArg Nat.succ (Bnd.len hb.2)
  | [], _ :: _, hb => hb.elim
  | _ :: _, [], hb => hb.elim
theorem Bnd.get : ∀ {as ss : List Int} {j : Nat} {s : Int}, Bnd as ss → ss[j]? = some s → ∃ a, as[j]? = some a ∧ 0 ≤ a ∧ a < s
  | [], [], j, s, _, e => by simp at e
  | b :: as, t :: ss, 0, s, hb, e => by
    have : t = s := by simpa using e
    subst this
    exact ⟨b, rfl, hb.1⟩
  | b :: as, t :: ss, j + 1, s, hb, e => by
    obtain ⟨a, z1, z2⟩ := Bnd.get (j := j) hb.2 (by simpa using e)
    exact ⟨a, by simpa using z1, z2⟩
  | [], _ :: _, _, _, hb, _ => hb.elim
  | _ :: _, [], _, _, hb, _ => hb.elim
theorem atI_int {ns : List Int} {j : Nat} {a : Int} (h : ns[j]? = some a) : atI (ns.map D.int) (j : Int) = some (.int a) := atI_nat (by rw [List.getElem?_map, h] <;> rfl)
theorem at_lt {α : Type} {ns : List α} {j : Nat} (h : j < ns.length) : ∃ a, ns[j]? = some a := ⟨ns[j], List.getElem?_eq_getElem h⟩
/-! ### cell, draw -/
def sp_law_cell : SpT := fun ds e q => ∃ ns k, ds = [intsD ns, .int k] ∧ 0 ≤ k ∧ ∀ i, q (.int i)
def sp_law_draw : SpT := fun ds e q => ∃ ns k sz, ds = [intsD ns, .int k, intsD sz] ∧ 0 ≤ k ∧ sz.length ≤ 1000 ∧ (∀ s ∈ sz, 1 ≤ s ∧ s ≤ 1000000) ∧ ∀ dr, Bnd dr sz → q (intsD dr)
def N_law_cell : List Str := ["script", "k"]
def t_law_cell_1 : ST := (sRet (eC (.int 0)))
def t_law_cell : ST := (sSeq (sIf (bCmp fLt (eVar 1) (eCB fLen (aCons (eVar 0) aNil))) (sRet (eOp fIx (eVar 0) (eVar 1))) sNext)
  t_law_cell_1)
def N_law_draw : List Str := ["script", "k", "sizes", "cell", "drawn", "size", "mixed", "j"]
def t_law_draw_1 : ST := (sRet (eVar 4))
def t_law_draw_2 : ST := (sRet (eVar 4))
def t_law_draw_3 : ST := (sSeq (sSet 6 (eOp (fI (fun _ j => 0 < j) (· % ·)) (eOp fAdd (eOp fAdd (eVar 3) (eC (.int 1))) (eOp (fI CMul (· * ·)) (eC (.int 31)) (eVar 1))) (eC (.int 2147483647))))
  (sSeq (sForget [0, 1, 3, 5, 7] (sFor (itR1 (aCons (eCB fLen (aCons (eVar 2) aNil)) aNil)) (tName 7) (sSeq (sSet 6 (eOp (fI (fun _ j => 0 < j) (· % ·)) (eOp fAdd (eOp fAdd (eOp (fI CMul (· * ·)) (eVar 6) (eC (.int 48271))) (eC (.int 11))) (eVar 7)) (eC (.int 2147483647))))
  (sSeq (sSet 6 (eOp (fI (fun _ j => 0 < j) (· % ·)) (eOp fAdd (eOp (fI CMul (· * ·)) (eVar 6) (eC (.int 69621))) (eC (.int 3))) (eC (.int 2147483647))))
  (sApp 4 (eOp (fI (fun _ j => 0 < j) (· % ·)) (eOp (fI CDiv (· / ·)) (eVar 6) (eC (.int 7))) (eOp fIx (eVar 2) (eVar 7)))))) [0, 1, 3, 5, 7]))
  t_law_draw_2))
def t_law_draw_4 : ST := (sSeq (sSet 4 (eLst aNil))
  (sSeq (sIf (bCmp fGe (eVar 3) (eOp (fI CPow fun i j => i ^ j.toNat) (eC (.int 10)) (eC (.int 18)))) (sSeq (sSet 3 (eOp fSub (eVar 3) (eOp (fI CPow fun i j => i ^ j.toNat) (eC (.int 10)) (eC (.int 18)))))
  (sSeq (sForget [0, 1, 5, 6, 7] (sFor (itSeq (eVar 2)) (tName 5) (sSeq (sApp 4 (eOp (fI (fun _ j => 0 < j) (· % ·)) (eVar 3) (eVar 5)))
  (sSet 3 (eOp (fI CDiv (· / ·)) (eVar 3) (eVar 5)))) [0, 1, 2, 5, 6, 7]))
  t_law_draw_1)) sNext)
  t_law_draw_3))
def t_law_draw : ST := (sSeq (sSet 3 (eCall sp_law_cell (aCons (eVar 0) (aCons (eVar 1) aNil))))
  (sSeq (sIf (bCmp fLt (eVar 3) (eC (.int 0))) (sSet 3 (eNeg (eVar 3))) sNext)
  t_law_draw_4))
theorem len_law_cell : ∀ ds e q, sp_law_cell ds e q → ds.length = ["script", "k"].length := by
  rintro _ e q ⟨ns, k, rfl, _⟩
  rfl
theorem m_law_cell : ∀ ds e q, sp_law_cell ds e q → t_law_cell { nx := fun _ => q .non, rt := q, xe := fun x _ => e x } (startD N_law_cell ds) := by
  rintro _ e q ⟨ns, k, rfl, hk, h⟩
  refine ite2D (fun c => ?_) fun c => ⟨rfl, h 0⟩
  have c := of_decide_eq_true c
  rw [List.length_map] at c
  obtain ⟨a, ha⟩ := at_lt (ns := ns) (j := k.toNat) (by omega)
  have e1 := atI_int ha
  rw [Int.toNat_of_nonneg hk] at e1
  exact ⟨.int a, e1, rfl, h a⟩
theorem len_law_draw : ∀ ds e q, sp_law_draw ds e q → ds.length = ["script", "k", "sizes"].length := by
  rintro _ e q ⟨ns, k, sz, rfl, _⟩
  rfl
theorem m_law_draw : ∀ ds e q, sp_law_draw ds e q → t_law_draw { nx := fun _ => q .non, rt := q, xe := fun x _ => e x } (startD N_law_draw ds) := by
  rintro _ e q ⟨ns, k, sz, rfl, hk, hl, hsz, h⟩
  refine ⟨ns, k, rfl, hk, fun cell0 => ?_⟩
  have rest : ∀ cell : Int, t_law_draw_4 { nx := fun _ => q .non, rt := q, xe := fun x _ => e x } [.sh (intsD ns), .sh (.int k), .sh (intsD sz), .sh (.int cell), .un, .un, .un, .un] := by
    intro cell
    refine ⟨Nat.zero_le _, ⟨by decide, by decide, by decide⟩, ite2D (fun c => ?_) fun c => ?_⟩
    · -- a great number: its own digits
      refine ⟨⟨by decide, by decide, by decide⟩, ?_⟩
      refine forR_map D.int (fun r δ => ∃ x0 x1 x2 don dr cell, δ = [x0, x1, x2, .sh (.int cell), .ow (intsD dr), .un, .un, .un] ∧ sz = don ++ r ∧ Bnd dr don) ?_ ?_ sz _ ⟨_, _, _, [], [], _, rfl, rfl, trivial⟩
      · rintro δ ⟨x0, x1, x2, don, dr, cell, rfl, es, hb⟩
        rw [List.append_nil] at es
        subst es
        exact ⟨immA_map (fun _ => rfl) _, h dr hb⟩
      · rintro s r δ nx ⟨x0, x1, x2, don, dr, cell, rfl, es, hb⟩ hnx
        obtain ⟨s1, s2⟩ := hsz s (by rw [es]; simp)
        have ln := hb.len
        have : don.length ≤ 1000 := by
          rw [es, List.length_append] at hl
          omega
        refine ⟨show (0 : Int) < s by omega, ?_, ⟨by omega, by omega⟩, hnx _ ⟨.un, .un, .un, don ++ [s], dr ++ [cell % s], cell / s, ?_, by rw [es]; simp, hb.snoc ⟨Int.emod_nonneg _ (by omega), Int.emod_lt_of_pos _ (by omega)⟩⟩⟩
        · rw [List.length_map, ln]
          exact lt1000 this
        · unfold intsD
          rw [List.map_append]
          rfl
    · -- mixed ones
      refine ⟨.inl ⟨by decide, by decide⟩, show (0 : Int) < 2147483647 by decide, ⟨?_, ?_⟩, ?_⟩
      · show -(2 ^ 62) ≤ ((sz.map D.int).length : Int)
        omega
      · show ((sz.map D.int).length : Int) < 2 ^ 62
        rw [List.length_map]
        omega
      rw [List.length_map, Int.toNat_natCast]
      refine forR_upto (fun i δ => ∃ mixed dr, δ = [.un, .un, .sh (intsD sz), .un, .ow (intsD dr), .un, .sh (.int mixed), .un] ∧ (0 ≤ mixed ∧ mixed < 2147483647) ∧ Bnd dr (sz.take i)) ?_ ?_ _ ⟨_, [], rfl, ⟨Int.emod_nonneg _ (by decide), Int.emod_lt_of_pos _ (by decide)⟩, trivial⟩
      · rintro δ ⟨mixed, dr, rfl, _, hb⟩
        rw [List.take_length] at hb
        exact ⟨immA_map (fun _ => rfl) _, h dr hb⟩
      · rintro i δ nx hi ⟨mixed, dr, rfl, hm, hb⟩ hnx
        obtain ⟨s, es⟩ := at_lt hi
        obtain ⟨s1, s2⟩ := hsz s (List.mem_of_getElem? es)
        have ln := hb.len
        rw [List.length_take] at ln
        obtain ⟨m1, hm1⟩ : ∃ m1, m1 = (mixed * 48271 + 11 + (i : Int)) % 2147483647 := ⟨_, rfl⟩
        have b1 : 0 ≤ m1 ∧ m1 < 2147483647 := by
          rw [hm1]
          exact ⟨Int.emod_nonneg _ (by decide), Int.emod_lt_of_pos _ (by decide)⟩
        obtain ⟨m2, hm2⟩ : ∃ m2, m2 = (m1 * 69621 + 3) % 2147483647 := ⟨_, rfl⟩
        have b2 : 0 ≤ m2 ∧ m2 < 2147483647 := by
          rw [hm2]
          exact ⟨Int.emod_nonneg _ (by decide), Int.emod_lt_of_pos _ (by decide)⟩
        refine ⟨.inl ⟨by omega, by omega⟩, show (0 : Int) < 2147483647 by decide, .inl ⟨?_, ?_⟩, show (0 : Int) < 2147483647 by decide, ?_⟩
        · show -(2 ^ 64) < (mixed * 48271 + 11 + (i : Int)) % 2147483647
          rw [← hm1]
          omega
        · show (mixed * 48271 + 11 + (i : Int)) % 2147483647 < 2 ^ 64
          rw [← hm1]
          omega
        refine ⟨⟨by decide, by decide⟩, .int s, atI_int es, show (0 : Int) < s by omega, ?_, hnx _ ⟨m2, dr ++ [m2 / 7 % s], ?_, b2, ?_⟩⟩
        · rw [List.length_map]
          exact lt1000 (by omega)
        · unfold intsD
          rw [List.map_append, hm2, hm1]
          rfl
        · rw [List.take_add_one, es]
          exact hb.snoc ⟨Int.emod_nonneg _ (by omega), Int.emod_lt_of_pos _ (by omega)⟩
  refine ite2D (fun c => ?_) fun c => ?_
  · exact rest _
  · exact rest _
end DL

set_option Elab.async false
set_option linter.all false
set_option maxRecDepth 100000
namespace DL
open PySem PySem.Spec PyProof.Rows L2

/-! ### drawn trees, in parts -/
/-- the names that other laws draw from -/
def newN : List Str := ["m", "a", "h1", "c", "z9", "b", "h2", "dd", "k", "e", "y", "f"]
/-- a drawn name: a letter and perhaps an ending -/
def NmOk (x : Str) : Prop := (∃ c : Nat, (97 ≤ c ∧ c ≤ 122) ∧ (x = ⟨#[c]⟩ ∨ x = ⟨#[c, 49]⟩ ∨ x = ⟨#[c, 120, 57]⟩)) ∨ x ∈ newN
structure Parts (nodes : List (Str × Int)) (edges : List (Str × Str × Int)) : Prop where
  len : 1 ≤ nodes.length ∧ nodes.length ≤ 12
  nm : ∀ x ∈ nodes.map (·.1), NmOk x
  wt : ∀ p ∈ nodes, 0 ≤ p.2 ∧ p.2 ≤ 999
  ln : ∀ e ∈ edges, 1 ≤ e.2.2 ∧ e.2.2 ≤ 999
  bld : ∃ r, OkB r edges.reverse ∧ nodesB r edges.reverse = (nodes.map (·.1)).reverse
def sp_law_parts : SpT := fun ds e q => ∃ ns k, ds = [intsD ns, .int k] ∧ 0 ≤ k ∧ ∀ nodes edges, Parts nodes edges → q (.tup [.lst (nodes.map nodeD), .lst (edges.map edgeD)])
def N_law_parts : List Str := ["script", "k", "head", "many", "digits", "names", "j", "nodes", "edges", "weight", "length", "other"]
def t_law_parts_1 : ST := (sApp 8 (eTup (iCons (eOp fIx (eVar 5) (eVar 6)) (iCons (eOp fIx (eVar 5) (eVar 11)) (iCons (eVar 10) aNil)))))
def t_law_parts_2 : ST := (sSeq (sApp 7 (eTup (iCons (eOp fIx (eVar 5) (eVar 6)) (iCons (eVar 9) aNil))))
  (sIf (bCmp fGt (eVar 6) (eC (.int 0))) (sSeq (sSet 11 (eOp (fI (fun _ j => 0 < j) (· % ·)) (eOp fIx (eVar 4) (eOp (fI CMul (· * ·)) (eC (.int 4)) (eVar 6))) (eVar 6)))
  (sSeq (sIf (bCmp fEq (eOp fIx (eVar 2) (eC (.int 2))) (eC (.int 1))) (sSet 11 (eCB fMaxX (aCons (eC (.int 0)) (aCons (eOp fSub (eOp fSub (eVar 6) (eC (.int 1))) (eOp (fI (fun _ j => 0 < j) (· % ·)) (eOp fIx (eVar 4) (eOp (fI CMul (· * ·)) (eC (.int 4)) (eVar 6))) (eC (.int 2)))) aNil)))) sNext)
  t_law_parts_1)) sNext))
def t_law_parts_3 : ST := (sFrzF 8 (sFrzF 7 (sRet (eTupF (iConsF (eVar 7) (iConsF (eVar 8) aNil))))))
def t_law_parts_4 : ST := (sSeq (sSet 7 (eLst aNil))
  (sSeq (sSet 8 (eLst aNil))
  (sSeq (sForget [0, 1, 6, 9, 10, 11] (sFor (itR1 (aCons (eVar 3) aNil)) (tName 6) (sSeq (sSet 9 (eOp fIx (eVar 4) (eOp fAdd (eOp (fI CMul (· * ·)) (eC (.int 4)) (eVar 6)) (eC (.int 2)))))
  (sSeq (sSet 10 (eOp fAdd (eC (.int 1)) (eOp (fI (fun _ j => 0 < j) (· % ·)) (eOp fIx (eVar 4) (eOp fAdd (eOp (fI CMul (· * ·)) (eC (.int 4)) (eVar 6)) (eC (.int 2)))) (eC (.int 3)))))
  (sSeq (sIf (bCmp fEq (eOp fIx (eVar 2) (eC (.int 1))) (eC (.int 3))) (sSeq (sSet 9 (eOp fIx (eVar 4) (eOp fAdd (eOp (fI CMul (· * ·)) (eC (.int 4)) (eVar 6)) (eC (.int 1)))))
  (sSet 10 (eOp fAdd (eC (.int 1)) (eOp (fI (fun _ j => 0 < j) (· % ·)) (eOp fIx (eVar 4) (eOp fAdd (eOp (fI CMul (· * ·)) (eC (.int 4)) (eVar 6)) (eC (.int 1)))) (eC (.int 999)))))) sNext)
  t_law_parts_2))) [0, 1, 3, 6, 9, 10, 11]))
  t_law_parts_3)))
def t_law_parts_5 : ST := (sSeq (sSet 4 (eCall sp_law_draw (aCons (eVar 0) (aCons (eOp fAdd (eVar 1) (eC (.int 1))) (aCons (eRep (eLst (iCons (eC (.int 97)) (iCons (eC (.int 1000)) (iCons (eC (.int 10)) (iCons (eC (.int 12)) aNil))))) (eC (.int 12))) aNil)))))
  (sSeq (sSet 5 (eLst aNil))
  (sSeq (sForget [0, 1, 6, 7, 8, 9, 10, 11] (sFor (itR1 (aCons (eVar 3) aNil)) (tName 6) (sApp 5 (eOp fAdd (eOp fIx (eC (.str "abcdefghijklmnopqrstuvwxyz")) (eOp (fI (fun _ j => 0 < j) (· % ·)) (eOp fAdd (eOp fIx (eVar 2) (eC (.int 3))) (eOp (fI CMul (· * ·)) (eOp fIx (eLst (iCons (eC (.int 1)) (iCons (eC (.int 3)) (iCons (eC (.int 5)) (iCons (eC (.int 7)) (iCons (eC (.int 9)) (iCons (eC (.int 11)) (iCons (eC (.int 17)) aNil)))))))) (eOp fIx (eVar 2) (eC (.int 4)))) (eVar 6))) (eC (.int 26)))) (eOp fIx (eLst (iCons (eC (.str "")) (iCons (eC (.str "1")) (iCons (eC (.str "x9")) aNil)))) (eOp fIx (eVar 2) (eC (.int 2)))))) [0, 1, 6, 7, 8, 9, 10, 11]))
  t_law_parts_4)))
def t_law_parts : ST := (sSeq (sSet 2 (eCall sp_law_draw (aCons (eVar 0) (aCons (eVar 1) (aCons (eLst (iCons (eC (.int 12)) (iCons (eC (.int 4)) (iCons (eC (.int 3)) (iCons (eC (.int 26)) (iCons (eC (.int 7)) aNil)))))) aNil)))))
  (sSeq (sSet 3 (eOp fAdd (eC (.int 1)) (eOp fIx (eVar 2) (eC (.int 0)))))
  (sSeq (sIf (bCmp fGt (eOp fIx (eVar 2) (eC (.int 1))) (eC (.int 0))) (sSet 3 (eOp fAdd (eC (.int 1)) (eOp (fI (fun _ j => 0 < j) (· % ·)) (eOp fIx (eVar 2) (eC (.int 0))) (eC (.int 8))))) sNext)
  t_law_parts_5)))
theorem len_law_parts : ∀ ds e q, sp_law_parts ds e q → ds.length = ["script", "k"].length := by
  rintro _ e q ⟨ns, k, rfl, _⟩
  rfl
/-- the sizes of the digits -/
def szP : List Int := (List.replicate 12 [97, 1000, 10, 12]).flatten
theorem szP_at : ∀ j : Fin 12, szP[4 * j.val]? = some 97 ∧ szP[4 * j.val + 1]? = some 1000 ∧ szP[4 * j.val + 2]? = some 10 := by decide +kernel
theorem dig_at {dg : List Int} (hb : Bnd dg szP) {j : Nat} (hj : j < 12) : (∃ a, atI (dg.map D.int) (4 * (j : Int)) = some (.int a) ∧ 0 ≤ a) ∧ (∃ a, atI (dg.map D.int) (4 * (j : Int) + 1) = some (.int a) ∧ 0 ≤ a ∧ a < 1000) ∧ ∃ a, atI (dg.map D.int) (4 * (j : Int) + 2) = some (.int a) ∧ 0 ≤ a ∧ a < 10 := by
  obtain ⟨s0, s1, s2⟩ := szP_at ⟨j, hj⟩
  obtain ⟨a, ea, a1, a2⟩ := hb.get s0
  obtain ⟨b, eb, b1, b2⟩ := hb.get s1
  obtain ⟨c, ec, c1, c2⟩ := hb.get s2
  have ea := atI_int ea
  have eb := atI_int eb
  have ec := atI_int ec
  push_cast at ea eb ec
  exact ⟨⟨a, ea, a1⟩, ⟨b, eb, b1, b2⟩, c, ec, c1, c2⟩
/-- the rest of a turn: the node, and the edge to an earlier one -/
theorem parts_2 {E : En} {x3 : Sl} {h0 h1 h2 h3 h4 : Int} {dg : List Int} {names : List Str} {nodes : List (Str × Int)} {edges : List (Str × Str × Int)} {j : Nat} {w l : Int} {nj : Str} (hb : Bnd dg szP) (hj : j < 12) (hl : nodes.length ≤ 12) (hl2 : edges.length ≤ 12) (en : names[j]? = some nj)
    (g0 : j = 0 → E.nx [.un, .un, .fr (intsD [h0, h1, h2, h3, h4]), x3, .fr (intsD dg), .ow (strsD names), .sh (.int j), .ow (.lst ((nodes ++ [(nj, w)]).map nodeD)), .ow (.lst (edges.map edgeD)), .sh (.int w), .sh (.int l), .un])
    (g1 : ∀ (o : Nat) no, o < j → names[o]? = some no → E.nx [.un, .un, .fr (intsD [h0, h1, h2, h3, h4]), x3, .fr (intsD dg), .ow (strsD names), .sh (.int j), .ow (.lst ((nodes ++ [(nj, w)]).map nodeD)), .ow (.lst ((edges ++ [(nj, no, l)]).map edgeD)), .sh (.int w), .sh (.int l), .sh (.int o)]) :
    t_law_parts_2 E [.un, .un, .fr (intsD [h0, h1, h2, h3, h4]), x3, .fr (intsD dg), .ow (strsD names), .sh (.int j), .ow (.lst (nodes.map nodeD)), .ow (.lst (edges.map edgeD)), .sh (.int w), .sh (.int l), .un] := by
  obtain ⟨⟨a, ea, a0⟩, _⟩ := dig_at hb hj
  have en' : atI (names.map D.str) (j : Int) = some (.str nj) := atI_nat (by rw [List.getElem?_map, en] <;> rfl)
  have e1 : (nodes ++ [(nj, w)]).map nodeD = nodes.map nodeD ++ [.tup [.str nj, .int w]] := by simp [nodeD]
  rw [e1] at g0
  simp only [e1, List.map_append] at g1
  refine ⟨.str nj, en', show 2 ≤ sizeLine by decide, ?_, ?_⟩
  · rw [List.length_map]
    exact lt1000 (by omega)
  refine ite2D (fun c => ?_) fun c => ?_
  · have c : (0 : Int) < j := of_decide_eq_true c
    refine ⟨.inl ⟨by decide, by decide⟩, .int a, ea, c, ?_⟩
    -- with an edge to o
    have one : ∀ o : Nat, o < j → t_law_parts_1 E [.un, .un, .fr (intsD [h0, h1, h2, h3, h4]), x3, .fr (intsD dg), .ow (strsD names), .sh (.int j), .ow (.lst (nodes.map nodeD ++ [.tup [.str nj, .int w]])), .ow (.lst (edges.map edgeD)), .sh (.int w), .sh (.int l), .sh (.int o)] := by
      intro o ho
      have hlt : o < names.length := by
        have := (List.getElem?_eq_some_iff.mp en).1
        omega
      obtain ⟨no, eno⟩ := at_lt hlt
      refine ⟨.str nj, en', .str no, atI_nat (by rw [List.getElem?_map, eno] <;> rfl), show 3 ≤ sizeLine by decide, ?_, g1 o no ho eno⟩
      rw [List.length_map]
      exact lt1000 (by omega)
    refine ⟨.int h2, atI_nat (j := 2) rfl, ite2D (fun c2 => ?_) fun c2 => ?_⟩
    · refine ⟨.inl ⟨by decide, by decide⟩, .int a, ea, show (0 : Int) < 2 by decide, ?_⟩
      have m2 : 0 ≤ a % 2 ∧ a % 2 < 2 := ⟨Int.emod_nonneg _ (by decide), Int.emod_lt_of_pos _ (by decide)⟩
      obtain ⟨o, ho, lo⟩ : ∃ o : Nat, (if (j : Int) - 1 - a % 2 > 0 then (j : Int) - 1 - a % 2 else 0) = (o : Int) ∧ o < j := by
        by_cases q : (j : Int) - 1 - a % 2 > 0
        · rw [if_pos q]
          exact ⟨((j : Int) - 1 - a % 2).toNat, by omega, by omega⟩
        · rw [if_neg q]
          exact ⟨0, rfl, by omega⟩
      have := one o lo
      rw [← ho] at this
      exact this
    · have m2 : 0 ≤ a % (j : Int) ∧ a % (j : Int) < j := ⟨Int.emod_nonneg _ (by omega), Int.emod_lt_of_pos _ c⟩
      obtain ⟨o, ho, lo⟩ : ∃ o : Nat, a % (j : Int) = (o : Int) ∧ o < j := ⟨(a % (j : Int)).toNat, by omega, by omega⟩
      have := one o lo
      rw [← ho] at this
      exact this
  · have c : ¬ (0 : Int) < j := of_decide_eq_false c
    exact g0 (by omega)
/-- the j-th name -/
def nmP (h3 st : Int) (suf : Str) (j : Nat) : Str := ⟨#[97 + ((h3 + st * (j : Int)) % 26).toNat]⟩ ++ suf
def StepOk (st : Int) : Prop := st = 1 ∨ st = 3 ∨ st = 5 ∨ st = 7 ∨ st = 9 ∨ st = 11 ∨ st = 17
theorem step_at {h4 : Int} (h : 0 ≤ h4 ∧ h4 < 7) : ∃ st, atI [D.int 1, .int 3, .int 5, .int 7, .int 9, .int 11, .int 17] h4 = some (.int st) ∧ StepOk st := by
  have : h4 = 0 ∨ h4 = 1 ∨ h4 = 2 ∨ h4 = 3 ∨ h4 = 4 ∨ h4 = 5 ∨ h4 = 6 := by omega
  rcases this with rfl | rfl | rfl | rfl | rfl | rfl | rfl
  · exact ⟨1, rfl, .inl rfl⟩
  · exact ⟨3, rfl, .inr (.inl rfl)⟩
  · exact ⟨5, rfl, .inr (.inr (.inl rfl))⟩
  · exact ⟨7, rfl, .inr (.inr (.inr (.inl rfl)))⟩
  · exact ⟨9, rfl, .inr (.inr (.inr (.inr (.inl rfl))))⟩
  · exact ⟨11, rfl, .inr (.inr (.inr (.inr (.inr (.inl rfl)))))⟩
  · exact ⟨17, rfl, .inr (.inr (.inr (.inr (.inr (.inr rfl)))))⟩
def SufOk (s : Str) : Prop := s = ⟨#[]⟩ ∨ s = ⟨#[49]⟩ ∨ s = ⟨#[120, 57]⟩
theorem suf_at {h2 : Int} (h : 0 ≤ h2 ∧ h2 < 3) : ∃ s, atI [D.str "", .str "1", .str "x9"] h2 = some (.str s) ∧ SufOk s := by
  have : h2 = 0 ∨ h2 = 1 ∨ h2 = 2 := by omega
  rcases this with rfl | rfl | rfl
  · exact ⟨"", rfl, .inl (by decide +kernel)⟩
  · exact ⟨"1", rfl, .inr (.inl (by decide +kernel))⟩
  · exact ⟨"x9", rfl, .inr (.inr (by decide +kernel))⟩
theorem abc_at : ∀ i : Fin 26, ("abcdefghijklmnopqrstuvwxyz" : Str).cps.toList[i.val]? = some (97 + i.val) := by decide +kernel
theorem letter_at {i : Int} (h : 0 ≤ i ∧ i < 26) : atI ("abcdefghijklmnopqrstuvwxyz" : Str).cps.toList i = some (97 + i.toNat) := by
  have := atI_nat (abc_at ⟨i.toNat, by omega⟩)
  rw [show ((⟨i.toNat, by omega⟩ : Fin 26).val : Int) = i from Int.toNat_of_nonneg h.1] at this
  exact this
theorem nmP_ok {h3 st : Int} {suf : Str} (hs : SufOk suf) (j : Nat) : NmOk (nmP h3 st suf j) := by
  have m := Int.emod_nonneg (h3 + st * (j : Int)) (by decide : (26 : Int) ≠ 0)
  have m2 := Int.emod_lt_of_pos (h3 + st * (j : Int)) (by decide : (0 : Int) < 26)
  refine .inl ⟨97 + ((h3 + st * (j : Int)) % 26).toNat, by omega, ?_⟩
  rcases hs with rfl | rfl | rfl
  · exact .inl rfl
  · exact .inr (.inl rfl)
  · exact .inr (.inr rfl)
theorem nmP_inj {h3 st : Int} {suf : Str} (ht : StepOk st) (hs : SufOk suf) {i j : Nat} (hi : i < 12) (hj : j < 12) (e : nmP h3 st suf i = nmP h3 st suf j) : i = j := by
  have e1 : 97 + ((h3 + st * (i : Int)) % 26).toNat = 97 + ((h3 + st * (j : Int)) % 26).toNat := by
    rcases hs with rfl | rfl | rfl
    · have := congrArg (fun s : Str => s.cps[0]?) e
      exact Option.some.inj this
    · have := congrArg (fun s : Str => s.cps[0]?) e
      exact Option.some.inj this
    · have := congrArg (fun s : Str => s.cps[0]?) e
      exact Option.some.inj this
  have m := Int.emod_nonneg (h3 + st * (i : Int)) (by decide : (26 : Int) ≠ 0)
  have m2 := Int.emod_nonneg (h3 + st * (j : Int)) (by decide : (26 : Int) ≠ 0)
  rcases ht with rfl | rfl | rfl | rfl | rfl | rfl | rfl <;> omega
theorem nms_nd {h3 st : Int} {suf : Str} (ht : StepOk st) (hs : SufOk suf) {n : Nat} (hn : n ≤ 12) : ((List.range n).map (nmP h3 st suf)).Nodup := by
  refine List.pairwise_map.mpr (List.Pairwise.imp_of_mem ?_ (List.nodup_range (n := n)))
  intro a b ha hb ne e
  have := List.mem_range.mp ha
  have := List.mem_range.mp hb
  exact ne (nmP_inj ht hs (by omega) (by omega) e)
/-- the nodes and edges so far -/
structure Half (names : List Str) (i : Nat) (nodes : List (Str × Int)) (edges : List (Str × Str × Int)) : Prop where
  nm : nodes.map (·.1) = names.take i
  wt : ∀ p ∈ nodes, 0 ≤ p.2 ∧ p.2 ≤ 999
  ln : ∀ e ∈ edges, 1 ≤ e.2.2 ∧ e.2.2 ≤ 999
  e0 : i = 0 → edges = []
  bld : 0 < i → ∃ r, OkB r edges.reverse ∧ nodesB r edges.reverse = (names.take i).reverse
  el : edges.length ≤ i
theorem take_next {names : List Str} {i : Nat} {x : Str} (e : names[i]? = some x) : names.take (i + 1) = names.take i ++ [x] := by rw [List.take_add_one, e] <;> rfl
theorem Half.first {names : List Str} {x : Str} {w : Int} {nodes : List (Str × Int)} {edges : List (Str × Str × Int)} (h : Half names 0 nodes edges) (e : names[0]? = some x) (hw : 0 ≤ w ∧ w ≤ 999) : Half names 1 (nodes ++ [(x, w)]) edges := by
  have ee := h.e0 rfl
  subst ee
  refine ⟨?_, fun p hp => ?_, fun _ z => by simp at z, fun z => by simp at z, fun _ => ⟨x, trivial, ?_⟩, by simp⟩
  · rw [take_next e, List.map_append, h.nm] <;> rfl
  · rcases List.mem_append.mp hp with hp | hp
    · exact h.wt p hp
    · cases List.mem_singleton.mp hp
      exact hw
  · rw [take_next e] <;> rfl
theorem Half.next {names : List Str} {i o : Nat} {x y : Str} {w l : Int} {nodes : List (Str × Int)} {edges : List (Str × Str × Int)} (hn : names.Nodup) (h : Half names i nodes edges) (e : names[i]? = some x) (ho : o < i) (eo : names[o]? = some y) (hw : 0 ≤ w ∧ w ≤ 999) (hl : 1 ≤ l ∧ l ≤ 999) :
    Half names (i + 1) (nodes ++ [(x, w)]) (edges ++ [(x, y, l)]) := by
  obtain ⟨r, ok, en⟩ := h.bld (by omega)
  have xn : x ∉ names.take i := fun hx => by
    obtain ⟨j, hj, ej⟩ := List.getElem_of_mem hx
    rw [List.length_take] at hj
    rw [List.getElem_take] at ej
    have e2 : names[j]? = some x := by rw [List.getElem?_eq_getElem (by omega), ej]
    obtain ⟨h1, q1⟩ := List.getElem?_eq_some_iff.mp e
    obtain ⟨h2, q2⟩ := List.getElem?_eq_some_iff.mp e2
    have := (List.getElem_inj hn).mp (q2.trans q1.symm)
    omega
  have yn : y ∈ names.take i := List.mem_of_getElem? (i := o) (by rw [List.getElem?_take_of_lt ho]; exact eo)
  refine ⟨?_, fun p hp => ?_, fun p hp => ?_, fun z => by omega, fun _ => ⟨r, ?_, ?_⟩, by rw [List.length_append]; exact Nat.add_le_add_right h.el 1⟩
  · rw [take_next e, List.map_append, h.nm] <;> rfl
  · rcases List.mem_append.mp hp with hp | hp
    · exact h.wt p hp
    · cases List.mem_singleton.mp hp
      exact hw
  · rcases List.mem_append.mp hp with hp | hp
    · exact h.ln p hp
    · cases List.mem_singleton.mp hp
      exact hl
  · rw [List.reverse_append]
    show OkB r ((x, y, l) :: edges.reverse)
    refine ⟨ok, ?_, ?_, hl.1⟩
    · rw [en]
      exact fun z => xn (List.mem_reverse.mp z)
    · rw [en]
      exact List.mem_reverse.mpr yn
  · rw [List.reverse_append, take_next e, List.reverse_append]
    show x :: nodesB r edges.reverse = [x] ++ _
    rw [en] <;> rfl
theorem m_law_parts : ∀ ds e q, sp_law_parts ds e q → t_law_parts { nx := fun _ => q .non, rt := q, xe := fun x _ => e x } (startD N_law_parts ds) := by
  rintro _ e q ⟨ns, k, rfl, hk, h⟩
  refine ⟨show 5 ≤ sizeLine by decide, ns, k, [12, 4, 3, 26, 7], rfl, hk, by decide, by decide, fun head hh => ?_⟩
  obtain ⟨h0, h1, h2, h3, h4, rfl, b0, b1, b2, b3, b4⟩ : ∃ h0 h1 h2 h3 h4 : Int, head = [h0, h1, h2, h3, h4] ∧ (0 ≤ h0 ∧ h0 < 12) ∧ (0 ≤ h1 ∧ h1 < 4) ∧ (0 ≤ h2 ∧ h2 < 3) ∧ (0 ≤ h3 ∧ h3 < 26) ∧ (0 ≤ h4 ∧ h4 < 7) := by
    match head, hh with
    | [a, b, c, d, f], ⟨z0, z1, z2, z3, z4, _⟩ => exact ⟨a, b, c, d, f, rfl, z0, z1, z2, z3, z4⟩
  obtain ⟨st, est, hst⟩ := step_at b4
  obtain ⟨suf, esuf, hsuf⟩ := suf_at b2
  have rest : ∀ many : Int, 1 ≤ many ∧ many ≤ 12 → t_law_parts_5 { nx := fun _ => q .non, rt := q, xe := fun x _ => e x } [.sh (intsD ns), .sh (.int k), .fr (intsD [h0, h1, h2, h3, h4]), .sh (.int many), .un, .un, .un, .un, .un, .un, .un, .un] := by
    rintro many ⟨mn1, mn2⟩
    refine ⟨show 4 ≤ sizeLine by decide, ⟨by decide, by decide, by decide⟩, ns, k + 1, szP, rfl, by omega, by decide, by decide +kernel, fun dg hb => ?_⟩
    refine ⟨show 0 ≤ sizeLine by decide, ⟨by omega, by omega⟩, ?_⟩
    -- the names
    refine forR_upto (fun i δ => δ = [.un, .un, .fr (intsD [h0, h1, h2, h3, h4]), .sh (.int many), .fr (intsD dg), .ow (strsD ((List.range i).map (nmP h3 st suf))), .un, .un, .un, .un, .un, .un]) ?_ ?_ _ rfl
    · rintro δ rfl
      have ndn := nms_nd (h3 := h3) hst hsuf (n := many.toNat) (by omega)
      have lnn : ((List.range many.toNat).map (nmP h3 st suf)).length = many.toNat := by rw [List.length_map, List.length_range]
      have okn : ∀ x ∈ (List.range many.toNat).map (nmP h3 st suf), NmOk x := fun x hx => by
        obtain ⟨j, _, rfl⟩ := List.mem_map.mp hx
        exact nmP_ok hsuf j
      generalize (List.range many.toNat).map (nmP h3 st suf) = names at ndn lnn okn ⊢
      refine ⟨show 0 ≤ sizeLine by decide, show 0 ≤ sizeLine by decide, ⟨by omega, by omega⟩, ?_⟩
      -- the nodes and edges
      refine forR_upto (fun i δ => ∃ x3 nodes edges, δ = [.un, .un, .fr (intsD [h0, h1, h2, h3, h4]), x3, .fr (intsD dg), .ow (strsD names), .un, .ow (.lst (nodes.map nodeD)), .ow (.lst (edges.map edgeD)), .un, .un, .un] ∧ Half names i nodes edges) ?_ ?_ _
        ⟨_, [], [], rfl, rfl, fun _ z => by simp at z, fun _ z => by simp at z, fun _ => rfl, fun z => absurd z (Nat.lt_irrefl 0), Nat.le_refl _⟩
      · rintro δ ⟨x3, nodes, edges, rfl, hf⟩
        have en : nodes.map (·.1) = names := by rw [hf.nm, List.take_of_length_le (by omega)]
        have ln : nodes.length = many.toNat := by
          have := congrArg List.length en
          rwa [List.length_map, lnn] at this
        have pts : Parts nodes edges := by
          refine ⟨by omega, by rw [en]; exact okn, hf.wt, hf.ln, ?_⟩
          obtain ⟨r, ok, e2⟩ := hf.bld (by omega)
          rw [List.take_of_length_le (by omega)] at e2
          rw [en]
          exact ⟨r, ok, e2⟩
        exact ⟨immA_map (fun _ => rfl) _, immA_map (fun _ => rfl) _, rfl, rfl, show 2 ≤ sizeLine by decide, rfl, h nodes edges pts⟩
      · rintro j δ nx hj ⟨x3, nodes, edges, rfl, hf⟩ hnx
        have hj12 : j < 12 := by omega
        obtain ⟨_, ⟨a1, ea1, a1p, a1l⟩, a2, ea2, a2p, a2l⟩ := dig_at hb hj12
        obtain ⟨nj, enj⟩ := at_lt (ns := names) (j := j) (by omega)
        have nl : nodes.length ≤ 12 := by
          have := congrArg List.length hf.nm
          rw [List.length_map, List.length_take] at this
          omega
        have step : ∀ w l : Int, (0 ≤ w ∧ w ≤ 999) → (1 ≤ l ∧ l ≤ 999) → t_law_parts_2 { nx := fun δ' => nx (forget [0, 1, 3, 6, 9, 10, 11] δ'), ct := fun δ' => nx (forget [0, 1, 3, 6, 9, 10, 11] δ'), bk := t_law_parts_3 { nx := fun _ => q .non, rt := q, xe := fun x _ => e x }, rt := q, xe := fun x _ => e x }
            [.un, .un, .fr (intsD [h0, h1, h2, h3, h4]), x3, .fr (intsD dg), .ow (strsD names), .sh (.int j), .ow (.lst (nodes.map nodeD)), .ow (.lst (edges.map edgeD)), .sh (.int w), .sh (.int l), .un] := by
          intro w l hw hl
          refine parts_2 hb hj12 nl (by have := hf.el; omega) enj (fun z => ?_) fun o no ho eno => ?_
          · subst z
            exact hnx _ ⟨.un, _, _, rfl, hf.first enj hw⟩
          · exact hnx _ ⟨.un, _, _, rfl, hf.next ndn enj ho eno hw hl⟩
        refine ⟨.inl ⟨by decide, by decide⟩, .int a2, ea2, .inl ⟨by decide, by decide⟩, .int a2, ea2, show (0 : Int) < 3 by decide, .int h1, atI_nat (j := 1) rfl, ite2D (fun c => ?_) fun c => ?_⟩
        · refine ⟨.inl ⟨by decide, by decide⟩, .int a1, ea1, .inl ⟨by decide, by decide⟩, .int a1, ea1, show (0 : Int) < 999 by decide, ?_⟩
          have m := Int.emod_nonneg a1 (by decide : (999 : Int) ≠ 0)
          have m2 := Int.emod_lt_of_pos a1 (by decide : (0 : Int) < 999)
          exact step a1 (1 + a1 % 999) ⟨by omega, by omega⟩ ⟨by omega, by omega⟩
        · have m := Int.emod_nonneg a2 (by decide : (3 : Int) ≠ 0)
          have m2 := Int.emod_lt_of_pos a2 (by decide : (0 : Int) < 3)
          exact step a2 (1 + a2 % 3) ⟨by omega, by omega⟩ ⟨by omega, by omega⟩
    · rintro i δ nx hi rfl hnx
      have m := Int.emod_nonneg (h3 + st * (i : Int)) (by decide : (26 : Int) ≠ 0)
      have m2 := Int.emod_lt_of_pos (h3 + st * (i : Int)) (by decide : (0 : Int) < 26)
      refine ⟨.int h3, atI_nat (j := 3) rfl, show 7 ≤ sizeLine by decide, .int h4, atI_nat (j := 4) rfl, .int st, est, .inl ?_, show (0 : Int) < 26 by decide, show 26 ≤ sizeLine by decide, _, letter_at ⟨m, m2⟩, show 3 ≤ sizeLine by decide, .int h2, atI_nat (j := 2) rfl, .str suf, esuf, ?_, ?_, ?_⟩
      · rcases hst with rfl | rfl | rfl | rfl | rfl | rfl | rfl <;> exact ⟨by decide, by decide⟩
      · show 1 + suf.length ≤ sizeLine
        rcases hsuf with rfl | rfl | rfl
        · show 1 ≤ sizeLine
          decide
        · show 2 ≤ sizeLine
          decide
        · show 3 ≤ sizeLine
          decide
      · rw [List.length_map, List.length_map, List.length_range]
        exact lt1000 (by omega)
      · refine hnx _ ?_
        unfold strsD
        rw [List.range_succ, List.map_append, List.map_append]
        rfl
  refine ⟨.int h0, atI_nat (j := 0) rfl, .int h1, atI_nat (j := 1) rfl, ite2D (fun c => ?_) fun c => ?_⟩
  · refine ⟨.int h0, atI_nat (j := 0) rfl, show (0 : Int) < 8 by decide, ?_⟩
    have m := Int.emod_nonneg h0 (by decide : (8 : Int) ≠ 0)
    have m2 := Int.emod_lt_of_pos h0 (by decide : (0 : Int) < 8)
    exact rest (1 + h0 % 8) ⟨by omega, by omega⟩
  · exact rest (1 + h0) ⟨by omega, by omega⟩
end DL

set_option Elab.async false
set_option linter.all false
set_option maxRecDepth 100000
namespace DL
open PySem PySem.Spec PyProof.Rows L2

/-! ### drawn trees -/
structure LTree (T : Tr) (d : Str → Str → Int) : Prop where
  met : Met T d
  len : 1 ≤ T.nodes.length ∧ T.nodes.length ≤ 12
  elen : T.edges.length ≤ 12
  nm : ∀ x ∈ T.names, NmOk x
  wt : ∀ p ∈ T.nodes, 0 ≤ p.2 ∧ p.2 ≤ 999
  ln : ∀ e ∈ T.edges, 1 ≤ e.2.2 ∧ e.2.2 ≤ 999
  asc : T.names.Pairwise fun x y => x.cps.toList < y.cps.toList
  norm : ∀ e ∈ T.edges, e.1.cps.toList < e.2.1.cps.toList
  easc : (T.edges.map edgeD).Pairwise fun a b => leD a b = true
theorem LTree.small {T : Tr} {d : Str → Str → Int} (h : LTree T d) : Small T := ⟨by have := h.len; omega, by have := h.elen; omega⟩
def sort3 (l : List (Str × Str × Int)) : List (Str × Str × Int) := l.mergeSort fun a b => leD (edgeD a) (edgeD b)
theorem sort3_map (l : List (Str × Str × Int)) : sortD (l.map edgeD) = (sort3 l).map edgeD := (List.map_mergeSort (f := edgeD) (s := leD) (r := fun a b => leD (edgeD a) (edgeD b)) fun _ _ _ _ => rfl).symm
theorem sort3_perm (l : List (Str × Str × Int)) : (sort3 l).Perm l := List.mergeSort_perm _ _
theorem srtb3 (l : List (Str × Str × Int)) : SrtbD (l.map edgeD) := .inr ⟨false, [false, true], fun d hd => by
  obtain ⟨p, _, rfl⟩ := List.mem_map.mp hd
  exact ⟨_, rfl, rfl, rfl⟩⟩
/-- the lesser name first -/
def normE (e : Str × Str × Int) : Str × Str × Int := (minT e.1 e.2.1, maxT e.1 e.2.1, e.2.2)
theorem str_ext {x y : Str} (h : x.cps.toList = y.cps.toList) : x = y := by
  cases x
  cases y
  have e : ∀ a b : Array Nat, a.toList = b.toList → a = b := fun a b h => by simpa using h
  exact congrArg Str.mk (e _ _ h)
theorem min_max (x y : Str) (h : x ≠ y) : (minT x y = x ∧ maxT x y = y ∧ x.cps.toList < y.cps.toList) ∨ (minT x y = y ∧ maxT x y = x ∧ y.cps.toList < x.cps.toList) := by
  unfold minT maxT
  by_cases a : x.cps.toList < y.cps.toList
  · have b : ¬ y.cps.toList < x.cps.toList := fun z => List.lt_irrefl _ (List.lt_trans a z)
    exact .inl ⟨if_neg b, if_pos a, a⟩
  · by_cases b : y.cps.toList < x.cps.toList
    · exact .inr ⟨if_pos b, if_neg a, b⟩
    · exact absurd (str_ext (List.le_antisymm b a)) h
theorem beside_norm {e : Str × Str × Int} (h : e.1 ≠ e.2.1) (a : Str) : beside a (normE e) = beside a e := by
  unfold beside normE
  rcases min_max e.1 e.2.1 h with ⟨h1, h2, _⟩ | ⟨h1, h2, _⟩
  · simp only [h1, h2]
  · simp only [h1, h2]
    by_cases c : e.1 = a
    · subst c
      rw [if_neg (fun z => h z.symm), if_pos rfl, if_pos rfl]
    · rw [if_neg c, if_neg c]
theorem leD_node {a b : Str × Int} (h : leD (nodeD a) (nodeD b) = true) (n : a.1 ≠ b.1) : a.1.cps.toList < b.1.cps.toList := by
  unfold leD at h
  have h0 : lexS (keyL (nodeD b)) (keyL (nodeD a)) = false := by simpa using h
  have h : lexS [.inr b.1.cps.toList, .inl b.2] [.inr a.1.cps.toList, .inl a.2] = false := h0
  rw [lexS, if_neg (fun z => n (str_ext (Sum.inr.inj z)).symm)] at h
  have h : ¬ b.1.cps.toList < a.1.cps.toList := of_decide_eq_false h
  by_cases q : a.1.cps.toList < b.1.cps.toList
  · exact q
  · exact absurd (str_ext (List.le_antisymm h q)) n
theorem OkB.ne {r : Str} : ∀ {bs : Bld}, OkB r bs → ∀ e ∈ bs, e.1 ≠ e.2.1
  | [], _, _, he => by cases he
  | b :: bs, ok, e, he => by
    rcases List.mem_cons.mp he with rfl | he
    · exact fun z => ok.2.1 (by rw [z]; exact ok.2.2.1)
    · exact OkB.ne ok.1 e he
/-- the tree of drawn parts -/
theorem ltree_of {nodes : List (Str × Int)} {edges : List (Str × Str × Int)} (h : Parts nodes edges) : ∃ d, LTree ⟨sort2 nodes, sort3 (edges.map normE)⟩ d := by
  obtain ⟨r, ok, en⟩ := h.bld
  have ne : ∀ e ∈ edges, e.1 ≠ e.2.1 := fun e he => ok.ne e (List.mem_reverse.mpr he)
  have pn : ((sort2 nodes).map (·.1)).Perm (nodes.map (·.1)) := (sort2_perm nodes).map _
  have nd : (nodes.map (·.1)).Nodup := by
    have := nodesB_nd ok
    rw [en] at this
    exact (List.reverse_perm _).nodup_iff.mp this
  have elen : edges.length ≤ nodes.length := by
    have := congrArg List.length en
    simp only [nodesB, List.length_append, List.length_map, List.length_reverse, List.length_singleton] at this
    omega
  have M : Met ⟨sort2 nodes, sort3 (edges.map normE)⟩ (dB edges.reverse) := met_of ok (by
    rw [en]
    exact pn.trans (List.reverse_perm _).symm) fun a => by
    show (List.filterMap (beside a) (sort3 (edges.map normE))).Perm (edges.reverse.filterMap (beside a))
    refine ((sort3_perm _).filterMap _).trans ?_
    rw [List.filterMap_map]
    have e : edges.filterMap (beside a ∘ normE) = edges.filterMap (beside a) := by
      have go : ∀ l : List (Str × Str × Int), (∀ e ∈ l, e.1 ≠ e.2.1) → l.filterMap (beside a ∘ normE) = l.filterMap (beside a) := by
        intro l
        induction l with
        | nil => intro _; rfl
        | cons b l ih =>
          intro hl
          rw [List.filterMap_cons, List.filterMap_cons, ih fun e he => hl e (List.mem_cons_of_mem _ he)]
          have e : (beside a ∘ normE) b = beside a b := beside_norm (hl b (by simp)) a
          rw [e]
      exact go edges ne
    rw [e]
    exact ((List.reverse_perm edges).filterMap _).symm
  refine ⟨_, M, ?_, ?_, fun x hx => h.nm x (pn.mem_iff.mp hx), fun p hp => h.wt p ((sort2_perm _).mem_iff.mp hp), fun e he => ?_, ?_, fun e he => ?_, ?_⟩
  · show 1 ≤ (sort2 nodes).length ∧ (sort2 nodes).length ≤ 12
    rw [(sort2_perm nodes).length_eq]
    exact h.len
  · show (sort3 (edges.map normE)).length ≤ 12
    rw [(sort3_perm _).length_eq, List.length_map]
    have := h.len
    omega
  · obtain ⟨e', he', rfl⟩ := List.mem_map.mp ((sort3_perm _).mem_iff.mp he)
    exact h.ln e' he'
  · show ((sort2 nodes).map (·.1)).Pairwise _
    rw [List.pairwise_map]
    have p1 := List.pairwise_mergeSort (le := fun a b => leD (nodeD a) (nodeD b)) (fun a b c => leD_trans _ _ _) (fun a b => leD_total _ _) nodes
    have p2 : (sort2 nodes).Pairwise fun a b => a.1 ≠ b.1 := List.pairwise_map.mp (pn.nodup_iff.mpr nd)
    exact (p1.and p2).imp fun {a b} z => leD_node z.1 z.2
  · obtain ⟨e', he', rfl⟩ := List.mem_map.mp ((sort3_perm _).mem_iff.mp he)
    unfold normE
    rcases min_max e'.1 e'.2.1 (ne e' he') with ⟨h1, h2, h3⟩ | ⟨h1, h2, h3⟩
    · simp only [h1, h2]
      exact h3
    · simp only [h1, h2]
      exact h3
  · show ((sort3 (edges.map normE)).map edgeD).Pairwise _
    rw [List.pairwise_map]
    exact List.pairwise_mergeSort (le := fun a b => leD (edgeD a) (edgeD b)) (fun a b c => leD_trans _ _ _) (fun a b => leD_total _ _) _
def sp_law_tree : SpT := fun ds e q => ∃ ns k, ds = [intsD ns, .int k] ∧ 0 ≤ k ∧ ∀ T d, LTree T d → q (treeD T)
def sp_law_near : SpT := fun ds e q => ∃ T a, ds = [treeD T, .str a] ∧ Small T ∧ (∀ e ∈ T.edges, e.1 ≠ e.2.1) ∧ q (.lst ((T.near a).map nodeD))
/-- the node that a digit picks -/
def pickT (T : Tr) (i : Int) : Str := (T.names[(i % (T.nodes.length : Int)).toNat]?).getD ""
def sp_law_pick : SpT := fun ds e q => ∃ T i, ds = [treeD T, .int i] ∧ 1 ≤ T.nodes.length ∧ ∀ x ∈ T.names, x = pickT T i → q (.str x)
def N_law_tree : List Str := ["script", "k", "nodes", "edges", "rows", "one", "other", "length"]
def t_law_tree_1 : ST := (sRet (eTup (iCons (eCB fTuple (aCons (eCB fSorted (aCons (eVar 2) aNil)) aNil)) (iCons (eCB fTuple (aCons (eCB fSorted (aCons (eVar 4) aNil)) aNil)) aNil))))
def t_law_tree : ST := (sSeq (sAsg (eCall sp_law_parts (aCons (eVar 0) (aCons (eVar 1) aNil))) (tTup (fits 2 (tsCons (tName 2) (tsCons (tName 3) tsNil)))))
  (sSeq (sSet 4 (eLst aNil))
  (sSeq (sForget [0, 1, 5, 6, 7] (sFor (itSeq (eVar 3)) (tTup (fits 3 (tsCons (tName 5) (tsCons (tName 6) (tsCons (tName 7) tsNil))))) (sApp 4 (eTup (iCons (eCB fMinX (aCons (eVar 5) (aCons (eVar 6) aNil))) (iCons (eCB fMaxX (aCons (eVar 5) (aCons (eVar 6) aNil))) (iCons (eVar 7) aNil))))) [0, 1, 3, 5, 6, 7]))
  t_law_tree_1)))
def N_law_near : List Str := ["tree", "name", "found", "one", "other", "length"]
def t_law_near_1 : ST := (sIf (bCmp fEq (eVar 4) (eVar 1)) (sApp 2 (eTup (iCons (eVar 3) (iCons (eVar 5) aNil)))) sNext)
def t_law_near_2 : ST := (sRet (eCB fSorted (aCons (eVar 2) aNil)))
def t_law_near : ST := (sSeq (sSet 2 (eLst aNil))
  (sSeq (sForget [3, 4, 5] (sFor (itSeq (eOp fIx (eVar 0) (eC (.int 1)))) (tTup (fits 3 (tsCons (tName 3) (tsCons (tName 4) (tsCons (tName 5) tsNil))))) (sSeq (sIf (bCmp fEq (eVar 3) (eVar 1)) (sApp 2 (eTup (iCons (eVar 4) (iCons (eVar 5) aNil)))) sNext)
  t_law_near_1) [0, 3, 4, 5]))
  t_law_near_2))
def N_law_pick : List Str := ["tree", "digit"]
def t_law_pick : ST := (sRet (eOp fIx (eOp fIx (eOp fIx (eVar 0) (eC (.int 0))) (eOp (fI (fun _ j => 0 < j) (· % ·)) (eVar 1) (eCB fLen (aCons (eOp fIx (eVar 0) (eC (.int 0))) aNil)))) (eC (.int 0))))
theorem len_law_tree : ∀ ds e q, sp_law_tree ds e q → ds.length = ["script", "k"].length := by
  rintro _ e q ⟨ns, k, rfl, _⟩
  rfl
theorem m_law_tree : ∀ ds e q, sp_law_tree ds e q → t_law_tree { nx := fun _ => q .non, rt := q, xe := fun x _ => e x } (startD N_law_tree ds) := by
  rintro _ e q ⟨ns, k, rfl, hk, h⟩
  refine ⟨ns, k, rfl, hk, fun nodes edges hp => ?_⟩
  have el : edges.length ≤ 12 := by
    obtain ⟨r, ok, en⟩ := hp.bld
    have := congrArg List.length en
    simp only [nodesB, List.length_append, List.length_map, List.length_reverse, List.length_singleton] at this
    have := hp.len
    omega
  refine ⟨rfl, show 0 ≤ sizeLine by decide, ?_⟩
  refine forR_map edgeD (fun r δ => ∃ x0 x1 x3 don, δ = [x0, x1, .fr (.lst (nodes.map nodeD)), x3, .ow (.lst ((don.map normE).map edgeD)), .un, .un, .un] ∧ edges = don ++ r) ?_ ?_ edges _ ⟨_, _, _, [], rfl, rfl⟩
  · rintro δ ⟨x0, x1, x3, don, rfl, es⟩
    rw [List.append_nil] at es
    subst es
    refine ⟨srtb2 _, srtb3 _, show 2 ≤ sizeLine by decide, ?_⟩
    show retTg .fz (.tup [.tup (sortD (nodes.map nodeD)), .tup (sortD ((edges.map normE).map edgeD))]) = true ∧ q (.tup [.tup (sortD (nodes.map nodeD)), .tup (sortD ((edges.map normE).map edgeD))])
    rw [sort2_map, sort3_map]
    obtain ⟨d, L⟩ := ltree_of hp
    refine ⟨?_, h _ d L⟩
    show immA [.tup _, .tup _] = true
    unfold immA immA immA D.imm
    rw [immA_map (fun _ => rfl), immA_map (fun _ => rfl)] <;> rfl
  · rintro ed r δ nx ⟨x0, x1, x3, don, rfl, es⟩ hnx
    refine ⟨rfl, show 3 ≤ sizeLine by decide, ?_, hnx _ ⟨.un, .un, .un, don ++ [ed], ?_, by rw [es]; simp⟩⟩
    · rw [List.length_map, List.length_map]
      have := congrArg List.length es
      rw [List.length_append] at this
      exact lt1000 (by omega)
    · rw [List.map_append, List.map_append]
      rfl
theorem len_law_near : ∀ ds e q, sp_law_near ds e q → ds.length = ["tree", "name"].length := by
  rintro _ e q ⟨T, a, rfl, _⟩
  rfl
theorem m_law_near : ∀ ds e q, sp_law_near ds e q → t_law_near { nx := fun _ => q .non, rt := q, xe := fun x _ => e x } (startD N_law_near ds) := by
  rintro _ e q ⟨T, a, rfl, hs, hne, h⟩
  refine ⟨Nat.zero_le _, .tup (T.edges.map edgeD), rfl, ?_⟩
  refine forR_map edgeD (fun r δ => ∃ x0 found, δ = [x0, .sh (.str a), .ow (.lst (found.map nodeD)), .un, .un, .un] ∧ found ++ r.filterMap (beside a) = T.adj a ∧ ∀ e ∈ r, e.1 ≠ e.2.1) ?_ ?_ T.edges _ ⟨_, [], rfl, rfl, hne⟩
  · rintro δ ⟨x0, found, rfl, hf, _⟩
    rw [List.filterMap_nil, List.append_nil] at hf
    subst hf
    refine ⟨srtb2 _, ?_⟩
    show retTg .nw (.lst (sortD ((T.adj a).map nodeD))) = true ∧ q (.lst (sortD ((T.adj a).map nodeD)))
    rw [sort2_map]
    exact ⟨immA_map (fun _ => rfl) _, h⟩
  · rintro ed r δ nx ⟨x0, found, rfl, hf, hn⟩ hnx
    have ne := hn ed (by simp)
    have hn' : ∀ e ∈ r, e.1 ≠ e.2.1 := fun e he => hn e (List.mem_cons_of_mem _ he)
    have small : found.length ≤ 1000 := by
      have := hs.adj a
      rw [← hf, List.length_append] at this
      omega
    have lt2 : (found.map nodeD).length < sizeLine := by
      rw [List.length_map]
      exact lt1000 small
    refine ⟨rfl, ite2D (fun c => ?_) (fun c => ?_)⟩
    · have c := of_decide_eq_true c
      refine ⟨show 2 ≤ sizeLine by decide, lt2, ite2D (fun c2 => ?_) (fun c2 => ?_)⟩
      · exact absurd (c.trans (of_decide_eq_true c2).symm) ne
      · refine hnx _ ⟨.un, found ++ [(ed.2.1, ed.2.2)], by rw [List.map_append] <;> rfl, ?_, hn'⟩
        rw [List.filterMap_cons, beside1 c] at hf
        rw [← hf]
        simp
    · have c := of_decide_eq_false c
      refine ite2D (fun c2 => ?_) (fun c2 => ?_)
      · have c2 := of_decide_eq_true c2
        refine ⟨show 2 ≤ sizeLine by decide, lt2, hnx _ ⟨.un, found ++ [(ed.1, ed.2.2)], by rw [List.map_append] <;> rfl, ?_, hn'⟩⟩
        rw [List.filterMap_cons, beside2 c c2] at hf
        rw [← hf]
        simp
      · have c2 := of_decide_eq_false c2
        refine hnx _ ⟨.un, found, rfl, ?_, hn'⟩
        rw [List.filterMap_cons, beside3 c c2] at hf
        exact hf
theorem len_law_pick : ∀ ds e q, sp_law_pick ds e q → ds.length = ["tree", "digit"].length := by
  rintro _ e q ⟨T, i, rfl, _⟩
  rfl
theorem m_law_pick : ∀ ds e q, sp_law_pick ds e q → t_law_pick { nx := fun _ => q .non, rt := q, xe := fun x _ => e x } (startD N_law_pick ds) := by
  rintro _ e q ⟨T, i, rfl, h1, h⟩
  have lm : ((T.nodes.map nodeD).length : Int) = (T.nodes.length : Int) := by rw [List.length_map]
  refine ⟨.tup (T.nodes.map nodeD), rfl, .tup (T.nodes.map nodeD), rfl, ?_, ?_⟩
  · show (0 : Int) < ((T.nodes.map nodeD).length : Int)
    rw [lm]
    omega
  · have m := Int.emod_nonneg i (show (T.nodes.length : Int) ≠ 0 by omega)
    have m2 := Int.emod_lt_of_pos i (show (0 : Int) < T.nodes.length by omega)
    obtain ⟨j, hj⟩ : ∃ j : Nat, i % (T.nodes.length : Int) = (j : Int) := ⟨(i % (T.nodes.length : Int)).toNat, by omega⟩
    obtain ⟨p, ep⟩ := at_lt (ns := T.nodes) (j := j) (by omega)
    refine ⟨nodeD p, ?_, .str p.1, rfl, rfl, h p.1 (List.mem_map.mpr ⟨p, List.mem_of_getElem? ep, rfl⟩) ?_⟩
    · show atI (T.nodes.map nodeD) (i % ((T.nodes.map nodeD).length : Int)) = _
      rw [lm, hj]
      exact atI_nat (by rw [List.getElem?_map, ep] <;> rfl)
    · unfold pickT
      rw [hj, Int.toNat_natCast, Tr.names, List.getElem?_map, ep] <;> rfl
end DL

set_option Elab.async false
set_option linter.all false
set_option maxRecDepth 100000
namespace DL
open PySem PySem.Spec PyProof.Rows L2

/-! ### dicts of texts -/
abbrev Txt2 := List (Str × Str)
def txtK (m : Txt2) : List (Key × D) := m.map fun p => (.inr p.1, .str p.2)
def keysT (m : Txt2) : List Str := m.map (·.1)
theorem txt_look {m : Txt2} (hn : (keysT m).Nodup) {x y : Str} (h : (x, y) ∈ m) : lookD (txtK m) (.inr x) = some (.str y) := by
  induction m with
  | nil => cases h
  | cons p m ih =>
    obtain ⟨n1, n2⟩ := List.nodup_cons.mp hn
    unfold lookD txtK at ih ⊢
    rw [List.map_cons, List.find?_cons]
    rcases List.mem_cons.mp h with h | h
    · subst h
      simp
    · have e : p.1 ≠ x := fun e => n1 (List.mem_map.mpr ⟨(x, y), h, e.symm⟩)
      have : decide ((Sum.inr p.1 : Key) = .inr x) = false := decide_eq_false fun z => e (Sum.inr.inj z)
      rw [this]
      exact ih n2 h
theorem txt_none {m : Txt2} {x : Str} (h : x ∉ keysT m) : lookD (txtK m) (.inr x) = none := by
  unfold lookD txtK
  rw [Option.map_eq_none_iff, List.find?_eq_none]
  intro kv hk
  obtain ⟨p, hp, rfl⟩ := List.mem_map.mp hk
  have : p.1 ≠ x := fun e => h (List.mem_map.mpr ⟨p, hp, e⟩)
  simpa using this
theorem txt_put {m : Txt2} {x y : Str} (h : x ∉ keysT m) : putD (txtK m) (.inr x) (.str y) = txtK (m ++ [(x, y)]) := by
  unfold txtK
  rw [putD_new, List.map_append] <;> try rfl
  intro kv hk e
  obtain ⟨p, hp, rfl⟩ := List.mem_map.mp hk
  exact h (List.mem_map.mpr ⟨p, hp, Sum.inr.inj e⟩)
theorem txt_key {m : Txt2} {x : Str} (h : x ∈ keysT m) : ∃ y, (x, y) ∈ m := by
  obtain ⟨⟨z, y⟩, h1, h2⟩ := List.mem_map.mp h
  cases h2
  exact ⟨y, h1⟩
/-! ### the law's way: a search, then back -/
structure Bfs (T : Tr) (d : Str → Str → Int) (a : Str) (bk : Txt2) : Prop where
  nd : (keysT bk).Nodup
  sub : ∀ x ∈ keysT bk, x ∈ T.names
  st : a ∈ keysT bk
  par : ∀ x p, (x, p) ∈ bk → x ≠ a → ∃ l, (p, l) ∈ T.adj x ∧ d a x = d a p + l
  back : ∀ x ∈ keysT bk, ∀ y l, (y, l) ∈ T.adj x → d a x = d a y + l → y ∈ keysT bk
section
variable {T : Tr} {d : Str → Str → Int} {a b x y : Str} {l : Int} {bk : Txt2}
theorem Bfs.len (h : Bfs T d a bk) : bk.length ≤ T.nodes.length := by
  have := len_of_sub h.nd h.sub
  simpa [keysT, Tr.names] using this
theorem keysT_app (z : Str) : keysT (bk ++ [(y, x)]) = keysT bk ++ [y] := by simp [keysT]
theorem Bfs.grow (M : Met T d) (ha : a ∈ T.names) (h : Bfs T d a bk) (hx : x ∈ keysT bk) (hy : (y, l) ∈ T.adj x) (hn : y ∉ keysT bk) : Bfs T d a (bk ++ [(y, x)]) := by
  have e : d a y = d a x + l := by
    rcases M.step ha hy with e | e
    · exact e
    · exact absurd (h.back x hx y l hy e) hn
  have ek := keysT_app (bk := bk) (x := x) (y := y) y
  refine ⟨?_, ?_, ?_, fun z p hz hza => ?_, ?_⟩
  · rw [ek]
    exact List.nodup_append.mpr ⟨h.nd, by simp, fun u hu v hv eq => hn (by rw [← List.mem_singleton.mp hv, ← eq]; exact hu)⟩
  · rw [ek]
    intro z hz
    rcases List.mem_append.mp hz with hz | hz
    · exact h.sub z hz
    · rw [List.mem_singleton.mp hz]
      exact (M.mem hy).2.1
  · rw [ek]
    exact List.mem_append_left _ h.st
  · rcases List.mem_append.mp hz with hz | hz
    · exact h.par z p hz hza
    · cases List.mem_singleton.mp hz
      exact ⟨l, M.sym hy, e⟩
  · rw [ek]
    intro z hz w k hw ew
    refine List.mem_append_left _ ?_
    rcases List.mem_append.mp hz with hz | hz
    · exact h.back z hz w k hw ew
    · rw [List.mem_singleton.mp hz] at hw ew
      have := M.uniq ha hw (M.sym hy) ew e
      subst this
      exact hx
theorem Bfs.all (M : Met T d) (ha : a ∈ T.names) (h : Bfs T d a bk) (hc : ∀ z ∈ keysT bk, ∀ y l, (y, l) ∈ T.adj z → y ∈ keysT bk) : ∀ x ∈ T.names, x ∈ keysT bk := by
  have go : ∀ (n : Nat) (x : Str), x ∈ T.names → (d a x).toNat = n → x ∈ keysT bk := by
    intro n
    induction n using Nat.strongRecOn with
    | ind n ih =>
      intro x hx e
      by_cases c : a = x
      · subst c
        exact h.st
      · obtain ⟨v, l, hv, ev⟩ := M.par ha hx c
        obtain ⟨_, hvn, hl, _⟩ := M.mem hv
        have := M.pos a v
        exact hc v (ih _ (by omega) v hvn rfl) x l (M.sym hv)
  exact fun x hx => go _ x hx rfl
/-- from b step by step towards a -/
structure Dwn (T : Tr) (d : Str → Str → Int) (a b : Str) (row : List Str) : Prop where
  up : ∀ i x, row[i]? = some x → Up T d a b i x
  st : ∀ i x y, row[i]? = some x → row[i + 1]? = some y → ∃ l, (y, l) ∈ T.adj x ∧ d a x = d a y + l
theorem Dwn.asc (M : Met T d) (ha : a ∈ T.names) {row : List Str} (h : Dwn T d a b row) : row.Pairwise fun x y => d a y < d a x := by
  rw [List.pairwise_iff_getElem]
  intro i j hi hj hij
  have u := h.up i _ (List.getElem?_eq_getElem hi)
  have w := h.up j _ (List.getElem?_eq_getElem hj)
  obtain ⟨k, rfl⟩ := Nat.le.dest (Nat.le_of_lt hij)
  have := M.up_dec ha u w
  omega
theorem Dwn.len (M : Met T d) (ha : a ∈ T.names) (hb : b ∈ T.names) {row : List Str} (h : Dwn T d a b row) : row.length ≤ T.nodes.length := by
  have := len_of_sub (l := row) (m := T.names) ((h.asc M ha).imp fun {x y} z e => by rw [e] at z; omega) fun x hx => by
    obtain ⟨i, hi, e⟩ := List.getElem_of_mem hx
    exact M.up_mem hb (h.up i x (by rw [List.getElem?_eq_getElem hi, e]))
  simpa [Tr.names] using this
theorem Dwn.path (M : Met T d) (ha : a ∈ T.names) (hb : b ∈ T.names) {r : List Str} (h : Dwn T d a b (r ++ [a])) : IsPath T d a b (r ++ [a]).reverse := by
  refine ⟨fun x => ?_, List.pairwise_reverse.mpr (h.asc M ha)⟩
  rw [List.mem_reverse]
  constructor
  · intro hx
    obtain ⟨i, hi, e⟩ := List.getElem_of_mem hx
    have u := h.up i x (by rw [List.getElem?_eq_getElem hi, e])
    exact ⟨M.up_mem hb u, M.up_on ha hb u⟩
  · rintro ⟨hx, ho⟩
    obtain ⟨k, u⟩ := M.on_up ha hb hx ho
    by_cases hk : k < (r ++ [a]).length
    · have w := h.up k _ (List.getElem?_eq_getElem hk)
      rw [M.up_det ha u w]
      exact List.getElem_mem hk
    · exfalso
      have w := h.up r.length a (by simp)
      rw [List.length_append, List.length_singleton] at hk
      obtain ⟨j, rfl⟩ := Nat.le.dest (show r.length ≤ k by omega)
      have := M.up_dec ha w u
      have := M.pos a x
      have := M.d0 a
      omega
/-- the steps of a path, from its first node on -/
def Chn (T : Tr) (d : Str → Str → Int) (a : Str) (r : List Str) : Prop := ∀ i x y, r[i]? = some x → r[i + 1]? = some y → ∃ l, (x, l) ∈ T.adj y ∧ d a y = d a x + l
theorem Dwn.chn {row : List Str} (h : Dwn T d a b row) : Chn T d a row.reverse := by
  intro i x y h1 h2
  have l2 : i + 1 < row.reverse.length := (List.getElem?_eq_some_iff.mp h2).1
  rw [List.length_reverse] at l2
  rw [List.getElem?_reverse (by omega)] at h1
  rw [List.getElem?_reverse (by omega)] at h2
  refine h.st (row.length - 1 - (i + 1)) y x h2 ?_
  rw [show row.length - 1 - (i + 1) + 1 = row.length - 1 - i by omega]
  exact h1
end
def sp_law_way : SpT := fun ds e q => ∃ T d a b, ds = [treeD T, .str a, .str b] ∧ Met T d ∧ Small T ∧ a ∈ T.names ∧ b ∈ T.names ∧ ∀ r, IsPath T d a b r → Chn T d a r → r[0]? = some a → r.getLast? = some b → q (strsD r)
def sp_law_far : SpT := fun ds e q => ∃ T d a b, ds = [treeD T, .str a, .str b] ∧ Met T d ∧ Small T ∧ a ∈ T.names ∧ b ∈ T.names ∧ q (.int (d a b))
def N_law_way : List Str := ["tree", "first", "second", "back", "waiting", "turn", "other", "length", "row"]
def t_law_way_1 : ST := (sRet (eRevL (eVar 8)))
def t_law_way_2 : ST := (sSeq (sSet 8 (eLst (iCons (eVar 2) aNil)))
  (sSeq (sForget [2, 4, 5, 6, 7] (sFor (itR1 (aCons (eCB fLen (aCons (eOp fIx (eVar 0) (eC (.int 0))) aNil)) aNil)) (tName 5) (sIf (bCmp fNe (eOp fIx (eVar 8) (eNeg (eC (.int 1)))) (eVar 1)) (sApp 8 (eOp fIx (eVar 3) (eOp fIx (eVar 8) (eNeg (eC (.int 1)))))) sNext) [0, 2, 4, 5, 6, 7]))
  t_law_way_1))
def t_law_way : ST := (sSeq (sSet 3 eDicN)
  (sSeq (sAsg (eVar 1) (tSub 3 (eVar 1)))
  (sSeq (sSet 4 (eLst (iCons (eVar 1) aNil)))
  (sSeq (sForget [5, 6, 7, 8] (sFor (itR1 (aCons (eCB fLen (aCons (eOp fIx (eVar 0) (eC (.int 0))) aNil)) aNil)) (tName 5) (sIf (bCmp fLt (eVar 5) (eCB fLen (aCons (eVar 4) aNil))) (sForget [6, 7, 8] (sFor (itSeq (eCall sp_law_near (aCons (eVar 0) (aCons (eOp fIx (eVar 4) (eVar 5)) aNil)))) (tTup (fits 2 (tsCons (tName 6) (tsCons (tName 7) tsNil)))) (sIf (bCmp (fIn true) (eVar 6) (eVar 3)) (sSeq (sAsg (eOp fIx (eVar 4) (eVar 5)) (tSub 3 (eVar 6)))
  (sApp 4 (eVar 6))) sNext) [6, 7, 8])) sNext) [5, 6, 7, 8]))
  t_law_way_2))))
def N_law_far : List Str := ["tree", "first", "second", "row", "total", "k", "other", "length"]
def t_law_far_1 : ST := (sRet (eVar 4))
def t_law_far : ST := (sSeq (sSet 3 (eCall sp_law_way (aCons (eVar 0) (aCons (eVar 1) (aCons (eVar 2) aNil)))))
  (sSeq (sSet 4 (eC (.int 0)))
  (sSeq (sForget [1, 2, 5, 6, 7] (sFor (itR2 (aCons (eC (.int 1)) (aCons (eCB fLen (aCons (eVar 3) aNil)) aNil))) (tName 5) (sForget [1, 2, 6, 7] (sFor (itSeq (eCall sp_law_near (aCons (eVar 0) (aCons (eOp fIx (eVar 3) (eVar 5)) aNil)))) (tTup (fits 2 (tsCons (tName 6) (tsCons (tName 7) tsNil)))) (sIf (bCmp fEq (eVar 6) (eOp fIx (eVar 3) (eOp fSub (eVar 5) (eC (.int 1))))) (sSet 4 (eOp fAdd (eVar 4) (eVar 7))) sNext) [1, 2, 6, 7])) [1, 2, 5, 6, 7]))
  t_law_far_1)))
theorem len_law_way : ∀ ds e q, sp_law_way ds e q → ds.length = ["tree", "first", "second"].length := by
  rintro _ e q ⟨T, d, a, b, rfl, _⟩
  rfl
theorem Met.loopless {T : Tr} {d : Str → Str → Int} (M : Met T d) : ∀ e ∈ T.edges, e.1 ≠ e.2.1 := fun e he z => by
  have h : (e.2.1, e.2.2) ∈ T.adj e.1 := List.mem_filterMap.mpr ⟨e, he, if_pos rfl⟩
  exact (M.mem h).2.2.2 z.symm
theorem m_law_way : ∀ ds e q, sp_law_way ds e q → t_law_way { nx := fun _ => q .non, rt := q, xe := fun x _ => e x } (startD N_law_way ds) := by
  rintro _ e q ⟨T, d, a, b, rfl, M, hsm, ha, hb, h⟩
  have n1000 := hsm.1
  have bounds : -(2 ^ 62) ≤ ((T.nodes.map nodeD).length : Int) ∧ ((T.nodes.map nodeD).length : Int) < 2 ^ 62 := by
    rw [List.length_map]
    omega
  refine ⟨(fun z => nomatch z), show 0 < sizeLine by decide, show 1 ≤ sizeLine by decide, .tup (T.nodes.map nodeD), rfl, bounds, ?_⟩
  rw [List.length_map, Int.toNat_natCast]
  refine forR_upto (fun t δ => ∃ bk, δ = [.sh (treeD T), .sh (.str a), .sh (.str b), .ow (.dic (txtK bk)), .ow (strsD (keysT bk)), .un, .un, .un, .un] ∧ Bfs T d a bk ∧ ∀ i x, i < t → (keysT bk)[i]? = some x → ∀ y l, (y, l) ∈ T.adj x → y ∈ keysT bk) ?_ ?_ _
    ⟨[(a, a)], rfl, ⟨by simp [keysT], by simpa [keysT] using ha, by simp [keysT], fun x p hx n => ?_, fun x hx y l hy ey => ?_⟩, fun i x hi => absurd hi (Nat.not_lt_zero _)⟩
  · -- all is known: the way back
    rintro δ ⟨bk, rfl, hB, hc⟩
    have hall := hB.all M ha fun z hz y l hy => by
      obtain ⟨i, hi, e⟩ := List.getElem_of_mem hz
      refine hc i z ?_ (by rw [List.getElem?_eq_getElem hi, e]) y l hy
      have := hB.len
      simp only [keysT, List.length_map] at hi
      omega
    refine ⟨show 1 ≤ sizeLine by decide, .tup (T.nodes.map nodeD), rfl, bounds, ?_⟩
    rw [List.length_map, Int.toNat_natCast]
    refine forR_upto (fun t δ => ∃ x0 r x, δ = [x0, .sh (.str a), .un, .ow (.dic (txtK bk)), .un, .un, .un, .un, .ow (strsD (r ++ [x]))] ∧ Dwn T d a b (r ++ [x]) ∧ (x = a ∨ r.length = t) ∧ (r ++ [x])[0]? = some b) ?_ ?_ _ ⟨_, [], b, rfl, ⟨fun i x hx => ?_, fun i x y _ hy => ?_⟩, .inr rfl, rfl⟩
    · rintro δ ⟨x0, r, x, rfl, hD, hx, h0⟩
      have ln := hD.len M ha hb
      rw [List.length_append, List.length_singleton] at ln
      have ex : x = a := by
        rcases hx with hx | hx
        · exact hx
        · omega
      subst ex
      show retTg .nw (.lst ((r ++ [x]).map D.str).reverse) = true ∧ q (.lst ((r ++ [x]).map D.str).reverse)
      rw [← List.map_reverse]
      refine ⟨immA_map (fun _ => rfl) _, h _ (hD.path M ha hb) hD.chn (by simp) ?_⟩
      rw [List.getLast?_reverse]
      cases er : r ++ [x] with
      | nil => rw [er] at h0; exact h0
      | cons c cs => rw [er] at h0; exact h0
    · rintro t δ nx ht ⟨x0, r, x, rfl, hD, hx, h0⟩ hnx
      have ln := hD.len M ha hb
      have lx : atI ((r ++ [x]).map D.str) (-1) = some (.str x) := by
        rw [List.map_append]
        exact atI_last _ _
      have xn : x ∈ T.names := M.up_mem hb (hD.up r.length x (by simp))
      refine ⟨.str x, lx, ite2D (fun c => ?_) fun c => ?_⟩
      · have c : ¬ x = a := by
          intro z
          have c : (!decide (x = a)) = true := c
          rw [decide_eq_true z] at c
          cases c
        obtain ⟨p, hp⟩ := txt_key (hall x xn)
        obtain ⟨l, hl, el⟩ := hB.par x p hp c
        refine ⟨.str x, lx, .str p, txt_look hB.nd hp, ?_, ?_⟩
        · rw [List.length_map]
          exact lt1000 (Nat.le_trans ln n1000)
        · refine hnx _ ⟨.un, r ++ [x], p, ?_, ⟨fun i y hy => ?_, fun i y z hy hz => ?_⟩, .inr ?_, ?_⟩
          · unfold strsD
            rw [List.map_append (l₁ := r ++ [x])]
            rfl
          · rw [List.getElem?_append] at hy
            split at hy
            · exact hD.up i y hy
            · rename_i hi
              have hi2 := (List.getElem?_eq_some_iff.mp hy).1
              rw [List.length_singleton] at hi2
              have ei : i = (r ++ [x]).length := by omega
              subst ei
              have : p = y := by simpa using hy
              subst this
              rw [List.length_append, List.length_singleton]
              exact .succ (hD.up r.length x (by simp)) hl el
          · rw [List.getElem?_append] at hz
            split at hz
            · rename_i hi
              rw [List.getElem?_append_left (by omega)] at hy
              exact hD.st i y z hy hz
            · rename_i hi
              have hi2 := (List.getElem?_eq_some_iff.mp hz).1
              rw [List.length_singleton] at hi2
              have ei : i + 1 = (r ++ [x]).length := by omega
              have : p = z := by
                rw [ei, Nat.sub_self] at hz
                simpa using hz
              subst this
              rw [List.length_append, List.length_singleton] at ei
              have ei : i = r.length := by omega
              subst ei
              have : x = y := by simpa using hy
              subst this
              exact ⟨l, hl, el⟩
          · rcases hx with hx | hx
            · exact absurd hx c
            · rw [List.length_append, List.length_singleton, hx]
          · rw [List.getElem?_append_left (by simp)]
            exact h0
      · have c : x = a := by
          have c : (!decide (x = a)) = false := c
          by_cases z : x = a
          · exact z
          · rw [decide_eq_false z] at c
            cases c
        exact hnx _ ⟨.un, r, x, rfl, hD, .inl c, h0⟩
    · have hi := (List.getElem?_eq_some_iff.mp hx).1
      have : i = 0 := by
        simp at hi
        exact hi
      subst this
      have : b = x := by simpa using hx
      subst this
      exact .zero
    · simp at hy
  · -- a turn of the search
    rintro t δ nx ht ⟨bk, rfl, hB, hc⟩ hnx
    refine ite2D (fun c => ?_) fun c => ?_
    · have c : (t : Int) < ((keysT bk).map D.str).length := of_decide_eq_true c
      rw [List.length_map] at c
      obtain ⟨x, ex⟩ := at_lt (ns := keysT bk) (j := t) (by omega)
      have ex' : ∀ {k : Txt2}, (keysT k)[t]? = some x → atI ((keysT k).map D.str) (t : Int) = some (.str x) := fun {k} z => atI_nat (by rw [List.getElem?_map, z] <;> rfl)
      refine ⟨.str x, ex' ex, T, x, rfl, hsm, M.loopless, ?_⟩
      refine forR_map nodeD (fun r δ => ∃ bk', δ = [.sh (treeD T), .sh (.str a), .sh (.str b), .ow (.dic (txtK bk')), .ow (strsD (keysT bk')), .sh (.int t), .un, .un, .un] ∧ Bfs T d a bk' ∧ (keysT bk')[t]? = some x ∧ (∀ i z, i < t → (keysT bk')[i]? = some z → ∀ y l, (y, l) ∈ T.adj z → y ∈ keysT bk') ∧
        (∀ y l, (y, l) ∈ T.adj x → (y, l) ∈ r ∨ y ∈ keysT bk') ∧ ∀ y l, (y, l) ∈ r → (y, l) ∈ T.adj x) ?_ ?_ (T.near x) _ ⟨bk, rfl, hB, ex, hc, fun y l hy => .inl ((sort2_perm _).mem_iff.mpr hy), fun y l hy => (sort2_perm _).mem_iff.mp hy⟩
      · rintro δ ⟨bk', rfl, hB', ex2, hc', hr, _⟩
        refine hnx _ ⟨bk', rfl, hB', fun i z hi hz y l hy => ?_⟩
        by_cases q : i = t
        · subst q
          rw [ex2] at hz
          cases hz
          rcases hr y l hy with q | q
          · cases q
          · exact q
        · exact hc' i z (by omega) hz y l hy
      · rintro ⟨y, l⟩ r δ nx' ⟨bk', rfl, hB', ex2, hc', hr, hr2⟩ hnx'
        have hadj := hr2 y l (by simp)
        refine ⟨rfl, ite2D (fun c => ?_) fun c => ?_⟩
        · have hn : y ∉ keysT bk' := fun hy => by
            obtain ⟨v, hv⟩ := txt_key hy
            have c : (!(lookD (txtK bk') (.inr y)).isSome) = true := c
            rw [txt_look hB'.nd hv] at c
            cases c
          have hG := hB'.grow M ha (List.mem_of_getElem? ex2) hadj hn
          have sz := hB'.len
          have ek := keysT_app (bk := bk') (x := x) (y := y) y
          refine ⟨.str x, ex' ex2, (fun z => nomatch z), ?_, ?_, ?_⟩
          · rw [txtK, List.length_map]
            exact lt1000 (Nat.le_trans sz n1000)
          · rw [List.length_map, keysT, List.length_map]
            exact lt1000 (Nat.le_trans sz n1000)
          · show nx' [.sh (treeD T), .sh (.str a), .sh (.str b), .ow (.dic (putD (txtK bk') (.inr y) (.str x))), .ow (.lst ((keysT bk').map D.str ++ [.str y])), .sh (.int t), .un, .un, .un]
            rw [txt_put hn, show (keysT bk').map D.str ++ [D.str y] = (keysT (bk' ++ [(y, x)])).map D.str by rw [ek]; simp]
            refine hnx' _ ⟨_, rfl, hG, ?_, fun i z hi hz w k hw => ?_, fun w k hw => ?_, fun w k hw => hr2 w k (List.mem_cons_of_mem _ hw)⟩
            · rw [ek, List.getElem?_append_left (List.getElem?_eq_some_iff.mp ex2).1]
              exact ex2
            · have hlt : i < (keysT bk').length := by
                have := (List.getElem?_eq_some_iff.mp ex2).1
                omega
              rw [ek, List.getElem?_append_left hlt] at hz
              rw [ek]
              exact List.mem_append_left _ (hc' i z hi hz w k hw)
            · rcases hr w k hw with q | q
              · rcases List.mem_cons.mp q with q | q
                · cases q
                  right
                  rw [ek]
                  simp
                · exact .inl q
              · right
                rw [ek]
                exact List.mem_append_left _ q
        · have hy : y ∈ keysT bk' := by
            by_cases hy : y ∈ keysT bk'
            · exact hy
            · have c : (!(lookD (txtK bk') (.inr y)).isSome) = false := c
              rw [txt_none hy] at c
              cases c
          refine hnx' _ ⟨bk', rfl, hB', ex2, hc', fun w k hw => ?_, fun w k hw => hr2 w k (List.mem_cons_of_mem _ hw)⟩
          rcases hr w k hw with q | q
          · rcases List.mem_cons.mp q with q | q
            · cases q
              exact .inr hy
            · exact .inl q
          · exact .inr q
    · have c : ¬ (t : Int) < ((keysT bk).map D.str).length := of_decide_eq_false c
      rw [List.length_map] at c
      refine hnx _ ⟨bk, rfl, hB, fun i z hi hz y l hy => hc i z ?_ hz y l hy⟩
      have := (List.getElem?_eq_some_iff.mp hz).1
      omega
  · have hx : (x, p) = (a, a) := List.mem_singleton.mp hx
    cases hx
    exact absurd rfl n
  · have ex : x = a := by simpa [keysT] using hx
    subst ex
    have := M.d0 x
    have := M.pos x y
    have := (M.mem hy).2.2.1
    omega
theorem len_law_far : ∀ ds e q, sp_law_far ds e q → ds.length = ["tree", "first", "second"].length := by
  rintro _ e q ⟨T, d, a, b, rfl, _⟩
  rfl
theorem Tr.near_nd {T : Tr} {d : Str → Str → Int} (M : Met T d) (a : Str) : ((T.near a).map (·.1)).Nodup := ((sort2_perm _).map _).nodup_iff.mpr (M.adjNd a)
theorem Tr.mem_near {T : Tr} {a : Str} {p : Str × Int} : p ∈ T.near a ↔ p ∈ T.adj a := (sort2_perm _).mem_iff
theorem m_law_far : ∀ ds e q, sp_law_far ds e q → t_law_far { nx := fun _ => q .non, rt := q, xe := fun x _ => e x } (startD N_law_far ds) := by
  rintro _ e q ⟨T, d, a, b, rfl, M, hsm, ha, hb, h⟩
  refine ⟨T, d, a, b, rfl, M, hsm, ha, hb, fun r hP hC r0 rl => ?_⟩
  have rn := hP.len
  have n1000 := hsm.1
  have rpos : 0 < r.length := (List.getElem?_eq_some_iff.mp r0).1
  have lr : ((r.map D.str).length : Int) = r.length := by rw [List.length_map]
  refine ⟨⟨by decide, by decide, ?_, ?_⟩, ?_⟩
  · rw [lr]
    omega
  · rw [lr]
    omega
  show forR _ _ _ _ _ (rangeD 1 (((r.map D.str).length : Int) - 1).toNat) _
  rw [show (((r.map D.str).length : Int) - 1).toNat = r.length - 1 by rw [lr]; omega]
  refine forR_from (a := 1) (n := r.length) (fun i δ => ∃ x tot, δ = [.sh (treeD T), .un, .un, .fr (strsD r), .sh (.int tot), .un, .un, .un] ∧ i ≤ r.length ∧ 0 < i ∧ r[i - 1]? = some x ∧ tot = d a x) ?_ ?_ _ ⟨a, 0, rfl, rpos, Nat.one_pos, r0, (M.d0 a).symm⟩
  · rintro i δ hi ⟨x, tot, rfl, hi2, hi3, ex, et⟩
    have : i = r.length := by omega
    subst this
    rw [List.getLast?_eq_getElem?, ex] at rl
    cases rl
    subst et
    exact ⟨rfl, h⟩
  · rintro i δ nx hi1 hi ⟨x, tot, rfl, hi2, hi3, ex, et⟩ hnx
    obtain ⟨y, ey⟩ := at_lt hi
    obtain ⟨l, hl, el⟩ := hC (i - 1) x y ex (by rw [show i - 1 + 1 = i by omega]; exact ey)
    refine ⟨.str y, atI_nat (by rw [List.getElem?_map, ey] <;> rfl), T, y, rfl, hsm, M.loopless, ?_⟩
    refine forR_map nodeD (fun rr δ => ∃ tot', δ = [.sh (treeD T), .un, .un, .fr (strsD r), .sh (.int tot'), .sh (.int i), .un, .un] ∧ (rr.map (·.1)).Nodup ∧ (∀ p ∈ rr, p ∈ T.adj y) ∧ (((x, l) ∈ rr ∧ tot' = d a x) ∨ (x ∉ rr.map (·.1) ∧ tot' = d a y))) ?_ ?_ (T.near y) _
      ⟨tot, rfl, T.near_nd M y, fun p hp => Tr.mem_near.mp hp, .inl ⟨Tr.mem_near.mpr hl, et⟩⟩
    · rintro δ ⟨tot', rfl, _, _, hx⟩
      rcases hx with ⟨z, _⟩ | ⟨_, z⟩
      · cases z
      · exact hnx _ ⟨y, tot', rfl, hi, Nat.succ_pos i, ey, z⟩
    · rintro ⟨w, k⟩ rr δ nx' ⟨tot', rfl, hnd, hin, hx⟩ hnx'
      obtain ⟨n1, n2⟩ := List.nodup_cons.mp hnd
      have hin' : ∀ p ∈ rr, p ∈ T.adj y := fun p hp => hin p (List.mem_cons_of_mem _ hp)
      have ex' : atI (r.map D.str) ((i : Int) - 1) = some (.str x) := by
        rw [show (i : Int) - 1 = ((i - 1 : Nat) : Int) by omega]
        exact atI_nat (by rw [List.getElem?_map, ex] <;> rfl)
      refine ⟨rfl, .str x, ex', ite2D (fun c => ?_) fun c => ?_⟩
      · have c : w = x := of_decide_eq_true c
        subst c
        have hk : k = l := by
          have h1 := hin (w, k) (by simp)
          rcases M.step ha h1 with q | q <;> rcases M.step ha hl with q2 | q2 <;> have := (M.mem h1).2.2.1 <;> have := (M.mem hl).2.2.1 <;> omega
        subst hk
        rcases hx with ⟨_, z⟩ | ⟨z, _⟩
        · exact hnx' _ ⟨tot' + k, rfl, n2, hin', .inr ⟨n1, by omega⟩⟩
        · exact absurd (by simp) z
      · have c : ¬ w = x := of_decide_eq_false c
        refine hnx' _ ⟨tot', rfl, n2, hin', ?_⟩
        rcases hx with ⟨z, z2⟩ | ⟨z, z2⟩
        · rcases List.mem_cons.mp z with z | z
          · exact absurd (congrArg Prod.fst z).symm c
          · exact .inl ⟨z, z2⟩
        · exact .inr ⟨fun q => z (List.mem_cons_of_mem _ q), z2⟩
end DL

set_option Elab.async false
set_option linter.all false
set_option maxRecDepth 100000
namespace DL
open PySem PySem.Spec PyProof.Rows L2

/-! ### comparisons that find the same -/
theorem nm_strOk {x : Str} (h : NmOk x) : PyData.strOk x = true := by
  rcases h with ⟨c, hc, rfl | rfl | rfl⟩ | h
  rotate_left 3
  · have : ∀ x ∈ newN, PyData.strOk x = true := by decide +kernel
    exact this x h
  · simp [PyData.strOk]
    omega
  · simp [PyData.strOk]
    omega
  · simp [PyData.strOk]
    omega
theorem lay_strs : ∀ {r : List Str}, (∀ x ∈ r, NmOk x) → PyData.canLayAll0 (pyA (r.map D.str)) = true ∧ PyData.depthAll (pyA (r.map D.str)) = 0
  | [], _ => ⟨rfl, rfl⟩
  | x :: r, h => by
    obtain ⟨h1, h2⟩ := lay_strs (r := r) fun y hy => h y (List.mem_cons_of_mem _ hy)
    rw [List.map_cons, pyA]
    refine ⟨?_, ?_⟩
    · show (PyData.strOk x && PyData.canLayAll0 (pyA (r.map D.str))) = true
      rw [nm_strOk (h x (by simp)), h1] <;> rfl
    · show max 0 (PyData.depthAll (pyA (r.map D.str))) = 0
      rw [h2] <;> rfl
theorem shaped_strs {r : List Str} (h : ∀ x ∈ r, NmOk x) : SeqAt.shaped (strsD r).py = true := by
  obtain ⟨h1, h2⟩ := lay_strs h
  show (PyData.canLayAll0 (pyA (r.map D.str)) && decide (PyData.depthAll (pyA (r.map D.str)) + 1 ≤ 64)) = true
  rw [h1, h2] <;> rfl
theorem lay_pairs : ∀ {r : List (Str × Int)}, (∀ p ∈ r, NmOk p.1) → PyData.canLayAll0 (pyA (r.map nodeD)) = true ∧ PyData.depthAll (pyA (r.map nodeD)) ≤ 1
  | [], _ => ⟨rfl, Nat.zero_le _⟩
  | p :: r, h => by
    obtain ⟨h1, h2⟩ := lay_pairs (r := r) fun y hy => h y (List.mem_cons_of_mem _ hy)
    rw [List.map_cons, pyA]
    refine ⟨?_, ?_⟩
    · show ((PyData.strOk p.1 && (true && true)) && PyData.canLayAll0 (pyA (r.map nodeD))) = true
      rw [nm_strOk (h p (by simp)), h1] <;> rfl
    · show max (max 0 (max 0 0) + 1) (PyData.depthAll (pyA (r.map nodeD))) ≤ 1
      omega
theorem shaped_pairs {r : List (Str × Int)} (h : ∀ p ∈ r, NmOk p.1) : SeqAt.shaped (D.lst (r.map nodeD)).py = true := by
  obtain ⟨h1, h2⟩ := lay_pairs h
  show (PyData.canLayAll0 (pyA (r.map nodeD)) && decide (PyData.depthAll (pyA (r.map nodeD)) + 1 ≤ 64)) = true
  rw [h1, decide_eq_true (by omega : PyData.depthAll (pyA (r.map nodeD)) + 1 ≤ 64)] <;> rfl
/-- xs != xs is False -/
theorem ne_same {ds : List D} (h : SeqAt.shaped (D.lst ds).py = true) : (!PyData.eqv (D.lst ds).py (D.lst ds).py) = false := by
  rw [SeqAt.eqv_refl _ (SeqAt.canLay_of_shaped h)] <;> rfl
theorem ne_int (i : Int) : (!decide (i = i)) = false := by
  rw [decide_eq_true rfl] <;> rfl
theorem ite2N {A B : Prop} {b : Bool} (hb : b = false) (h2 : B) : if b = true then A else B := by
  subst hb
  exact itF h2
theorem filter_one {α : Type} {p : α → Bool} {m : α} : ∀ {l : List α}, l.Nodup → m ∈ l → p m = true → (∀ x ∈ l, p x = true → x = m) → l.filter p = [m]
  | [], _, h, _, _ => by cases h
  | x :: l, n, h, hp, hu => by
    obtain ⟨n1, n2⟩ := List.nodup_cons.mp n
    rw [List.filter_cons]
    by_cases e : x = m
    · subst e
      rw [if_pos hp]
      have : l.filter p = [] := List.filter_eq_nil_iff.mpr fun y hy hy2 => n1 (by rw [← hu y (List.mem_cons_of_mem _ hy) hy2]; exact hy)
      rw [this]
    · have e2 : ¬ p x = true := fun z => e (hu x (by simp) z)
      rw [if_neg e2]
      rcases List.mem_cons.mp h with h | h
      · exact absurd h.symm e
      · exact filter_one n2 h hp fun y hy => hu y (List.mem_cons_of_mem _ hy)
end DL

set_option Elab.async false
set_option linter.all false
set_option maxRecDepth 100000
namespace DL
open PySem

/-! ### groups: nodes with all that is between them -/
/-- all nodes on paths between two of r are in r -/
def Conv (T : Tr) (d : Str → Str → Int) (r : List Str) : Prop := ∀ x ∈ r, ∀ y ∈ r, ∀ z ∈ T.names, On d x y z → z ∈ r
/-- the edges with both ends in r -/
def inner (r : List Str) (e : Str × Str × Int) : Bool := decide (e.1 ∈ r) && decide (e.2.1 ∈ r)
/-- the end of an edge that is farther from o -/
def kid (d : Str → Str → Int) (o : Str) (e : Str × Str × Int) : Str := if d o e.1 < d o e.2.1 then e.2.1 else e.1
def eld (d : Str → Str → Int) (o : Str) (e : Str × Str × Int) : Str := if d o e.1 < d o e.2.1 then e.1 else e.2.1
section
variable {T : Tr} {d : Str → Str → Int} (M : Met T d)
include M
theorem Met.edge1 {e : Str × Str × Int} (he : e ∈ T.edges) : (e.2.1, e.2.2) ∈ T.adj e.1 := List.mem_filterMap.mpr ⟨e, he, if_pos rfl⟩
theorem Met.edge2 {e : Str × Str × Int} (he : e ∈ T.edges) : (e.1, e.2.2) ∈ T.adj e.2.1 := M.sym (M.edge1 he)
theorem Met.kid_eld {o : Str} (ho : o ∈ T.names) {e : Str × Str × Int} (he : e ∈ T.edges) : beside (kid d o e) e = some (eld d o e, e.2.2) ∧ d o (kid d o e) = d o (eld d o e) + e.2.2 := by
  have h1 := M.edge1 he
  have h2 := M.edge2 he
  have pos := (M.mem h1).2.2.1
  have ne := (M.mem h1).2.2.2
  unfold kid eld beside
  by_cases c : d o e.1 < d o e.2.1
  · rw [if_pos c, if_pos c, if_neg (fun z => ne z.symm), if_pos rfl]
    refine ⟨rfl, ?_⟩
    rcases M.step ho h1 with q | q <;> omega
  · rw [if_neg c, if_neg c, if_pos rfl]
    refine ⟨rfl, ?_⟩
    rcases M.step ho h1 with q | q <;> omega
theorem Met.kids_nd {o : Str} (ho : o ∈ T.names) : (T.edges.map (kid d o)).Nodup := by
  refine List.pairwise_map.mpr (List.pairwise_iff_getElem.mpr fun i j hi hj hij e => ?_)
  have nd := M.adjNd (kid d o T.edges[i])
  have nd1 : (T.adj (kid d o T.edges[i])).Pairwise fun a b => a.1 ≠ b.1 := List.pairwise_map.mp nd
  have nd2 := List.pairwise_iff_getElem.mp (List.pairwise_filterMap.mp nd1) i j hi hj hij
  obtain ⟨b1, e1⟩ := M.kid_eld ho (List.getElem_mem hi)
  obtain ⟨b2, e2⟩ := M.kid_eld ho (List.getElem_mem hj)
  rw [← e] at b2 e2
  refine nd2 _ b1 _ b2 ?_
  exact M.uniq ho (List.mem_filterMap.mpr ⟨_, List.getElem_mem hi, b1⟩) (List.mem_filterMap.mpr ⟨_, List.getElem_mem hj, b2⟩) e1 e2
/-- what is between two is between one of them and a third -/
theorem Met.on_or {o x y z : Str} (ho : o ∈ T.names) (hx : x ∈ T.names) (hy : y ∈ T.names) (hz : z ∈ T.names) (h : On d x y z) : On d o x z ∨ On d o y z := by
  by_cases c1 : On d o x z
  · exact .inl c1
  · by_cases c2 : On d o y z
    · exact .inr c2
    · exfalso
      have zo : o ≠ z := fun q => by
        subst q
        apply c1
        unfold On
        have := M.d0 o
        omega
      have zx : x ≠ z := fun q => by
        subst q
        apply c1
        unfold On
        have := M.d0 x
        omega
      have zy : y ≠ z := fun q => by
        subst q
        apply c2
        unfold On
        have := M.d0 y
        omega
      obtain ⟨v, l, hv, ev⟩ := M.par ho hz zo
      obtain ⟨u, k, hu, eu⟩ := M.par hx hz zx
      obtain ⟨t, m, ht, et⟩ := M.par hy hz zy
      have q1 : v = u := by
        by_cases q : v = u
        · exact q
        · exact absurd (M.apart_on ho hx hz hv ev hu eu q) c1
      have q2 : v = t := by
        by_cases q : v = t
        · exact q
        · exact absurd (M.apart_on ho hy hz hv ev ht et q) c2
      subst q1 q2
      obtain ⟨_, vn, hk, _⟩ := M.mem hu
      obtain ⟨_, _, hm, _⟩ := M.mem ht
      have tr := M.tri hx vn hy
      have s1 := M.symd y z
      have s2 := M.symd y v
      unfold On at h
      omega
/-- all on the way from o to x are there, where the next ones towards o are -/
theorem Met.up_closed {o : Str} {r : List Str} (ho : o ∈ T.names) (hr : ∀ x ∈ r, x ∈ T.names) (hp : ∀ x ∈ r, x ≠ o → ∀ v l, (v, l) ∈ T.adj x → d o x = d o v + l → v ∈ r) : ∀ x ∈ r, ∀ z ∈ T.names, On d o x z → z ∈ r := by
  have go : ∀ (n : Nat) (x : Str), (d o x).toNat = n → x ∈ r → ∀ z ∈ T.names, On d o x z → z ∈ r := by
    intro n
    induction n using Nat.strongRecOn with
    | ind n ih =>
      intro x en hx z hz oz
      by_cases cz : z = x
      · subst cz
        exact hx
      · have xo : o ≠ x := fun q => by
          subst q
          have p := M.pos o z
          have p2 := M.pos z o
          have := M.d0 o
          unfold On at oz
          exact cz (M.of0 ho hz (by omega)).symm
        obtain ⟨v, l, hv, ev⟩ := M.par ho (hr x hx) xo
        obtain ⟨_, vn, hl, _⟩ := M.mem hv
        have pv := M.pos o v
        refine ih _ (by omega) v rfl (hp x hx (fun q => xo q.symm) v l hv ev) z hz ?_
        -- z is on the way to v
        obtain ⟨v', l', hv', ev', ov'⟩ := M.on_next (a := x) (b := o) (hr x hx) ho (hr x hx) (by unfold On; have := M.d0 x; omega) (fun q => xo q.symm)
        have hz2 : x ≠ z := fun q => cz q.symm
        -- the first step from x towards z is v
        obtain ⟨u, k, hu, eu⟩ := M.par hz (hr x hx) cz
        have e1 : u = v := by
          have t1 := M.tri ho hz (M.mem hu).2.1
          have s1 := M.symd z x
          have s2 := M.symd z u
          have su := M.step ho hu
          have n1 := (M.mem hu).2.2.1
          unfold On at oz
          refine M.uniq ho hu hv ?_ ev
          rcases su with q | q <;> omega
        subst e1
        have el : k = l := by
          have n1 := (M.mem hu).2.2.1
          rcases M.step ho hu with q | q <;> omega
        subst el
        unfold On at oz ⊢
        have s1 := M.symd z x
        have s2 := M.symd z u
        omega
  exact fun x hx => go _ x rfl hx
/-- in a tree, nodes hang together just if the edges among them are one fewer -/
theorem Met.conv_iff {r : List Str} (hn : r.Nodup) (h0 : r ≠ []) (hr : ∀ x ∈ r, x ∈ T.names) : Conv T d r ↔ (T.edges.filter (inner r)).length + 1 = r.length := by
  cases r with
  | nil => exact absurd rfl h0
  | cons o s =>
    obtain ⟨on, sn⟩ := List.nodup_cons.mp hn
    have ho := hr o (by simp)
    -- the children of inner edges
    have kn : ((T.edges.filter (inner (o :: s))).map (kid d o)).Nodup := ((List.filter_sublist (l := T.edges)).map (kid d o)).nodup (M.kids_nd ho)
    have ins : ∀ e, e ∈ T.edges.filter (inner (o :: s)) → e ∈ T.edges ∧ e.1 ∈ o :: s ∧ e.2.1 ∈ o :: s := fun e he => by
      obtain ⟨h1, h2⟩ := List.mem_filter.mp he
      unfold inner at h2
      rw [Bool.and_eq_true, decide_eq_true_iff, decide_eq_true_iff] at h2
      exact ⟨h1, h2⟩
    have ks : ∀ x ∈ (T.edges.filter (inner (o :: s))).map (kid d o), x ∈ s := fun x hx => by
      obtain ⟨e, he, rfl⟩ := List.mem_map.mp hx
      obtain ⟨h1, h2, h3⟩ := ins e he
      obtain ⟨b, eq⟩ := M.kid_eld ho h1
      have hk : kid d o e ∈ o :: s := by
        unfold kid
        split
        · exact h3
        · exact h2
      rcases List.mem_cons.mp hk with q | q
      · rw [q, M.d0] at eq
        have := M.pos o (eld d o e)
        have := (M.mem (M.edge1 h1)).2.2.1
        omega
      · exact q
    have le : (T.edges.filter (inner (o :: s))).length ≤ s.length := by
      have := len_of_sub kn ks
      simpa using this
    rw [List.length_cons]
    constructor
    · intro hc
      have sub : ∀ x ∈ s, x ∈ (T.edges.filter (inner (o :: s))).map (kid d o) := fun x hx => by
        have hx' : x ∈ o :: s := List.mem_cons_of_mem _ hx
        have xo : o ≠ x := fun q => on (by rw [q]; exact hx)
        obtain ⟨v, l, hv, ev⟩ := M.par ho (hr x hx') xo
        obtain ⟨_, vn, hl, _⟩ := M.mem hv
        have hvr : v ∈ o :: s := hc o (by simp) x hx' v vn (by
          unfold On
          have s1 := M.symd v x
          have t := M.tri ho vn (hr x hx')
          rcases M.step vn (M.sym hv) with q | q
          · have := M.d0 v
            have := M.pos v x
            rcases M.step vn hv with q2 | q2 <;> omega
          · have := M.d0 v
            have := M.pos v x
            rcases M.step vn hv with q2 | q2 <;> omega)
        obtain ⟨e, he, be⟩ := List.mem_filterMap.mp hv
        have pos := (M.mem (M.edge1 he)).2.2.1
        refine List.mem_map.mpr ⟨e, List.mem_filter.mpr ⟨he, ?_⟩, ?_⟩
        · unfold inner
          rw [Bool.and_eq_true, decide_eq_true_iff, decide_eq_true_iff]
          unfold beside at be
          split at be
          · rename_i c
            cases be
            exact ⟨by rw [c]; exact hx', hvr⟩
          · split at be
            · rename_i c
              cases be
              exact ⟨hvr, by rw [c]; exact hx'⟩
            · cases be
        · unfold beside at be
          unfold kid
          split at be
          · rename_i c
            cases be
            rw [c, if_neg (by omega)]
          · split at be
            · rename_i c
              cases be
              rw [c, if_pos (by omega)]
            · cases be
      have := len_of_sub sn sub
      rw [List.length_map] at this
      omega
    · intro hl
      -- every other one is a child of an inner edge
      have all : ∀ x ∈ s, x ∈ (T.edges.filter (inner (o :: s))).map (kid d o) := by
        intro x hx
        apply Classical.byContradiction
        intro nx
        have := len_of_sub (l := x :: (T.edges.filter (inner (o :: s))).map (kid d o)) (m := s) (List.nodup_cons.mpr ⟨nx, kn⟩) (fun y hy => by
          rcases List.mem_cons.mp hy with rfl | hy
          · exact hx
          · exact ks y hy)
        rw [List.length_cons, List.length_map] at this
        omega
      have up := M.up_closed (r := o :: s) ho hr fun x hx xo v l hv ev => by
        rcases List.mem_cons.mp hx with q | q
        · exact absurd q xo
        · obtain ⟨e, he, ek⟩ := List.mem_map.mp (all x q)
          obtain ⟨h1, h2, h3⟩ := ins e he
          obtain ⟨b, eq⟩ := M.kid_eld ho h1
          rw [ek] at b eq
          have : v = eld d o e := M.uniq ho hv (List.mem_filterMap.mpr ⟨e, h1, b⟩) ev eq
          rw [this]
          unfold eld
          split
          · exact h2
          · exact h3
      intro x hx y hy z hz oz
      rcases M.on_or ho (hr x hx) (hr y hy) hz oz with q | q
      · exact up x hx z hz q
      · exact up y hy z hz q
end
end DL

set_option Elab.async false
set_option linter.all false
set_option maxRecDepth 100000
namespace DL
open PySem PySem.Spec PyProof.Rows L2

/-! ### data that == tells apart as = does -/
mutual
/-- texts of Python's, ints, None, lists and tuples of such -/
def D.ok : D → Bool
  | .non => true
  | .int _ => true
  | .str s => PyData.strOk s
  | .lst ds => okA ds
  | .tup ds => okA ds
  | .bl _ => false
  | .dic _ => false
  | .ktp _ => false
  | .dtp _ => false
def okA : List D → Bool
  | [] => true
  | d :: ds => d.ok && okA ds
end
mutual
def D.dep : D → Nat
  | .lst ds => depA ds + 1
  | .tup ds => depA ds + 1
  | _ => 0
def depA : List D → Nat
  | [] => 0
  | d :: ds => max d.dep (depA ds)
end
mutual
theorem ok_lay : ∀ d : D, d.ok = true → d.py.canLay0 = true ∧ d.py.depth = d.dep
  | .non, _ => ⟨rfl, rfl⟩
  | .int _, _ => ⟨rfl, rfl⟩
  | .str s, h => ⟨h, rfl⟩
  | .lst ds, h => by
    obtain ⟨h1, h2⟩ := ok_layA ds h
    exact ⟨h1, congrArg (· + 1) h2⟩
  | .tup ds, h => by
    obtain ⟨h1, h2⟩ := ok_layA ds h
    exact ⟨h1, congrArg (· + 1) h2⟩
  | .bl _, h => nomatch h
  | .dic _, h => nomatch h
  | .ktp _, h => nomatch h
  | .dtp _, h => nomatch h
theorem ok_layA : ∀ ds : List D, okA ds = true → PyData.canLayAll0 (pyA ds) = true ∧ PyData.depthAll (pyA ds) = depA ds
  | [], _ => ⟨rfl, rfl⟩
  | d :: ds, h => by
    rw [okA, Bool.and_eq_true] at h
    obtain ⟨a1, a2⟩ := ok_lay d h.1
    obtain ⟨b1, b2⟩ := ok_layA ds h.2
    refine ⟨?_, ?_⟩
    · show (d.py.canLay0 && PyData.canLayAll0 (pyA ds)) = true
      rw [a1, b1] <;> rfl
    · show max d.py.depth (PyData.depthAll (pyA ds)) = max d.dep (depA ds)
      rw [a2, b2]
end
theorem ok_shaped {d : D} (h : d.ok = true) (hd : d.dep ≤ 64) : SeqAt.shaped d.py = true := by
  obtain ⟨h1, h2⟩ := ok_lay d h
  show (d.py.canLay0 && decide (d.py.depth ≤ 64)) = true
  rw [h1, h2, decide_eq_true hd] <;> rfl
mutual
theorem eqv_ok : ∀ d e : D, d.ok = true → e.ok = true → (PyData.eqv d.py e.py = true ↔ d = e)
  | .non, e, _, he => by
    cases e with
    | non => exact ⟨fun _ => rfl, fun _ => rfl⟩
    | bl _ => cases he
    | dic _ => cases he
    | ktp _ => cases he
    | dtp _ => cases he
    | _ => exact ⟨(fun z => nomatch z), (fun z => nomatch z)⟩
  | .int i, e, _, he => by
    cases e with
    | int j =>
      show (i == j) = true ↔ _
      rw [beq_iff_eq]
      exact ⟨congrArg D.int, D.int.inj⟩
    | bl _ => cases he
    | dic _ => cases he
    | ktp _ => cases he
    | dtp _ => cases he
    | _ => exact ⟨(fun z => nomatch z), (fun z => nomatch z)⟩
  | .str i, e, _, he => by
    cases e with
    | str j =>
      show (i == j) = true ↔ _
      rw [beq_iff_eq]
      exact ⟨congrArg D.str, D.str.inj⟩
    | bl _ => cases he
    | dic _ => cases he
    | ktp _ => cases he
    | dtp _ => cases he
    | _ => exact ⟨(fun z => nomatch z), (fun z => nomatch z)⟩
  | .lst ds, e, hd, he => by
    cases e with
    | lst es =>
      show PyData.eqvAll (pyA ds) (pyA es) = true ↔ _
      rw [eqv_okA ds es hd he]
      exact ⟨congrArg D.lst, D.lst.inj⟩
    | bl _ => cases he
    | dic _ => cases he
    | ktp _ => cases he
    | dtp _ => cases he
    | _ => exact ⟨(fun z => nomatch z), (fun z => nomatch z)⟩
  | .tup ds, e, hd, he => by
    cases e with
    | tup es =>
      show PyData.eqvAll (pyA ds) (pyA es) = true ↔ _
      rw [eqv_okA ds es hd he]
      exact ⟨congrArg D.tup, D.tup.inj⟩
    | bl _ => cases he
    | dic _ => cases he
    | ktp _ => cases he
    | dtp _ => cases he
    | _ => exact ⟨(fun z => nomatch z), (fun z => nomatch z)⟩
  | .bl _, _, h, _ => nomatch h
  | .dic _, _, h, _ => nomatch h
  | .ktp _, _, h, _ => nomatch h
  | .dtp _, _, h, _ => nomatch h
theorem eqv_okA : ∀ ds es : List D, okA ds = true → okA es = true → (PyData.eqvAll (pyA ds) (pyA es) = true ↔ ds = es)
  | [], [], _, _ => ⟨fun _ => rfl, fun _ => rfl⟩
  | [], _ :: _, _, _ => ⟨(fun z => nomatch z), (fun z => nomatch z)⟩
  | _ :: _, [], _, _ => ⟨(fun z => nomatch z), (fun z => nomatch z)⟩
  | d :: ds, e :: es, hd, he => by
    rw [okA, Bool.and_eq_true] at hd he
    show (PyData.eqv d.py e.py && PyData.eqvAll (pyA ds) (pyA es)) = true ↔ _
    rw [Bool.and_eq_true, eqv_ok d e hd.1 he.1, eqv_okA ds es hd.2 he.2]
    exact ⟨fun ⟨a, b⟩ => by rw [a, b], fun z => by cases z; exact ⟨rfl, rfl⟩⟩
end
theorem okA_map {α : Type} {g : α → D} : ∀ {l : List α}, (∀ a ∈ l, (g a).ok = true) → okA (l.map g) = true
  | [], _ => rfl
  | a :: l, h => by
    rw [List.map_cons, okA, h a (by simp), okA_map fun x hx => h x (List.mem_cons_of_mem _ hx)] <;> rfl
theorem depA_map {α : Type} {g : α → D} {n : Nat} : ∀ {l : List α}, (∀ a ∈ l, (g a).dep ≤ n) → depA (l.map g) ≤ n
  | [], _ => Nat.zero_le _
  | a :: l, h => by
    rw [List.map_cons, depA]
    have h1 := h a (by simp)
    have h2 := depA_map (g := g) fun x hx => h x (List.mem_cons_of_mem _ hx)
    omega
/-- a == b, a != b of such data: the way of equal ones, the way of others -/
theorem eq_ways {d e : D} {A : Prop} {q : Bool → Prop} (hd : d.ok = true) (he : e.ok = true) (dd : d.dep ≤ 64) (de : e.dep ≤ 64) (h1 : d = e → q true) (h2 : d ≠ e → q false) : fEq d e q := by
  have gen : (SeqAt.shaped d.py = true ∧ SeqAt.shaped e.py = true) ∧ q (PyData.eqv d.py e.py) := by
    refine ⟨⟨ok_shaped hd dd, ok_shaped he de⟩, ?_⟩
    cases c : PyData.eqv d.py e.py with
    | true => exact h1 ((eqv_ok d e hd he).mp c)
    | false => exact h2 fun z => by rw [(eqv_ok d e hd he).mpr z] at c; cases c
  have dec : ∀ {α : Type} [DecidableEq α] (f : α → D) (i j : α), (∀ i j, f i = f j ↔ i = j) → d = f i → e = f j → q (decide (i = j)) := fun f i j inj ed ee => by
    by_cases c : i = j
    · rw [decide_eq_true c]
      exact h1 (by rw [ed, ee, c])
    · rw [decide_eq_false c]
      exact h2 fun z => c ((inj i j).mp (by rw [← ed, ← ee, z]))
  cases d with
  | int i =>
    cases e with
    | int j => exact dec D.int i j (fun i j => ⟨D.int.inj, congrArg D.int⟩) rfl rfl
    | _ => exact gen
  | str i =>
    cases e with
    | str j => exact dec D.str i j (fun i j => ⟨D.str.inj, congrArg D.str⟩) rfl rfl
    | non => exact h2 fun z => nomatch z
    | _ => exact gen
  | non =>
    cases e with
    | str j => exact h2 fun z => nomatch z
    | _ => exact gen
  | bl _ => cases hd
  | dic _ => cases hd
  | ktp _ => cases hd
  | dtp _ => cases hd
  | _ => exact gen
theorem ne_ways {d e : D} {q : Bool → Prop} (hd : d.ok = true) (he : e.ok = true) (dd : d.dep ≤ 64) (de : e.dep ≤ 64) (h1 : d = e → q false) (h2 : d ≠ e → q true) : fNe d e q := eq_ways (A := True) hd he dd de (fun z => h1 z) fun z => h2 z
/-- texts -/
def StrsOk (r : List Str) : Prop := ∀ x ∈ r, PyData.strOk x = true
theorem strsD_ok {r : List Str} (h : StrsOk r) : (strsD r).ok = true := okA_map h
theorem strsD_dep (r : List Str) : (strsD r).dep ≤ 1 := Nat.succ_le_succ (depA_map fun _ _ => Nat.le_refl 0)
theorem strs_inj {r s : List Str} : r.map D.str = s.map D.str ↔ r = s := List.map_inj_right fun x y h => D.str.inj h
theorem strsD_inj {r s : List Str} : strsD r = strsD s ↔ r = s := ⟨fun h => strs_inj.mp (D.lst.inj h), fun h => by rw [h]⟩
/-- strictly ascending -/
def AscT (r : List Str) : Prop := r.Pairwise fun x y => x.cps.toList < y.cps.toList
instance (r : List Str) : Decidable (AscT r) := by unfold AscT; infer_instance
theorem AscT.nd {r : List Str} (h : AscT r) : r.Nodup := h.imp fun {x y} z e => by
  rw [e] at z
  exact List.lt_irrefl _ z
theorem ascT_eq : ∀ {r s : List Str}, (∀ x, x ∈ r ↔ x ∈ s) → AscT r → AscT s → r = s
  | [], [], _, _, _ => rfl
  | [], y :: s, h, _, _ => absurd ((h y).mpr (by simp)) (by simp)
  | x :: r, [], h, _, _ => absurd ((h x).mp (by simp)) (by simp)
  | x :: r, y :: s, h, p, q => by
    obtain ⟨p1, p2⟩ := List.pairwise_cons.mp p
    obtain ⟨q1, q2⟩ := List.pairwise_cons.mp q
    have irr : ∀ {a b : Str}, a.cps.toList < b.cps.toList → b.cps.toList < a.cps.toList → False := fun h1 h2 => List.lt_irrefl _ (List.lt_trans h1 h2)
    have e : x = y := by
      rcases List.mem_cons.mp ((h x).mp (by simp)) with e | e
      · exact e
      · rcases List.mem_cons.mp ((h y).mpr (by simp)) with e' | e'
        · exact e'.symm
        · exact (irr (q1 x e) (p1 y e')).elim
    subst e
    rw [ascT_eq (r := r) (s := s) (fun z => ?_) p2 q2]
    constructor
    · intro hz
      rcases List.mem_cons.mp ((h z).mp (List.mem_cons_of_mem _ hz)) with e | e
      · subst e
        exact (irr (p1 z hz) (p1 z hz)).elim
      · exact e
    · intro hz
      rcases List.mem_cons.mp ((h z).mpr (List.mem_cons_of_mem _ hz)) with e | e
      · subst e
        exact (irr (q1 z hz) (q1 z hz)).elim
      · exact e
theorem lexS_str (x y : Str) : lexS [.inr y.cps.toList] [.inr x.cps.toList] = false ↔ ¬ y.cps.toList < x.cps.toList := by
  by_cases e : y.cps.toList = x.cps.toList
  · rw [e, lexS_irrefl]
    exact ⟨fun _ => List.lt_irrefl _, fun _ => rfl⟩
  · rw [lexS, if_neg (fun z => e (Sum.inr.inj z))]
    exact decide_eq_false_iff_not
/-- what sorts without equal ones ascends -/
theorem ascT_of {r : List Str} (h : r.Pairwise fun x y => ¬ y.cps.toList < x.cps.toList) (hn : r.Nodup) : AscT r := (h.and hn).imp fun {x y} ⟨a, b⟩ => by
  by_cases z : x.cps.toList < y.cps.toList
  · exact z
  · exact absurd (str_ext (Sum.inr.inj (ltS_tri (x := .inr x.cps.toList) (y := .inr y.cps.toList) (decide_eq_false z) (decide_eq_false a)))) b
theorem pyA_strs (r : List Str) : keysD (r.map D.str) = some (r.map Sum.inr) := by
  induction r with
  | nil => rfl
  | cons x r ih =>
    rw [List.map_cons]
    unfold keysD
    rw [ih] <;> rfl
/-- sorted(set(..)) of texts: the members, ascending -/
theorem sortSet_strs {r : List Str} {ys : List Key} (p : ys.Perm (setL [] (r.map Sum.inr))) (so : ys.Pairwise fun x y => lexS [skK y] [skK x] = false) : ∃ zs, ys.map keyToD = zs.map D.str ∧ AscT zs ∧ ∀ x, x ∈ zs ↔ x ∈ r := by
  have all : ∀ k ∈ ys, ∃ x ∈ r, k = Sum.inr x := fun k hk => by
    rcases (setL_mem (r.map Sum.inr) [] k).mp (p.mem_iff.mp hk) with z | z
    · cases z
    · obtain ⟨x, hx, rfl⟩ := List.mem_map.mp z
      exact ⟨x, hx, rfl⟩
  let f : Key → Str := fun k => match k with | .inr x => x | .inl _ => Str.empty
  have ey : ys = (ys.map f).map Sum.inr := by
    rw [List.map_map]
    conv => lhs; rw [← List.map_id ys]
    apply List.map_congr_left
    intro k hk
    obtain ⟨x, _, rfl⟩ := all k hk
    rfl
  refine ⟨ys.map f, ?_, ?_, fun x => ?_⟩
  · conv => lhs; rw [ey]
    rw [List.map_map] <;> rfl
  · refine ascT_of ?_ ?_
    · refine List.pairwise_map.mpr (so.imp_of_mem fun {a b} ha hb q => ?_)
      obtain ⟨x, _, rfl⟩ := all a ha
      obtain ⟨y, _, rfl⟩ := all b hb
      exact (lexS_str x y).mp q
    · have nd : ys.Nodup := p.nodup_iff.mpr (setL_nd _ _ .nil)
      rw [ey] at nd
      exact List.Pairwise.of_map _ (fun a b h e => h (by rw [e])) nd
  · constructor
    · intro hx
      obtain ⟨k, hk, rfl⟩ := List.mem_map.mp hx
      obtain ⟨y, hy, rfl⟩ := all k hk
      exact hy
    · intro hx
      refine List.mem_map.mpr ⟨Sum.inr x, p.mem_iff.mpr ((setL_mem _ _ _).mpr (.inr (List.mem_map.mpr ⟨x, hx, rfl⟩))), rfl⟩
/-- sorted(..) of texts -/
def sortT (l : List Str) : List Str := l.mergeSort fun a b => leD (.str a) (.str b)
theorem sortT_map (l : List Str) : sortD (l.map D.str) = (sortT l).map D.str := (List.map_mergeSort (f := D.str) (s := leD) (r := fun a b => leD (.str a) (.str b)) fun _ _ _ _ => rfl).symm
theorem sortT_perm (l : List Str) : (sortT l).Perm l := List.mergeSort_perm _ _
theorem sortT_asc (l : List Str) : (sortT l).Pairwise fun x y => ¬ y.cps.toList < x.cps.toList :=
  (List.pairwise_mergeSort (le := fun a b => leD (.str a) (.str b)) (fun a b c => leD_trans _ _ _) (fun a b => leD_total _ _) l).imp fun {a b} h => by
    unfold leD at h
    have h : lexS (keyL (D.str b)) (keyL (D.str a)) = false := by simpa using h
    exact (lexS_str a b).mp h
theorem srtbT (l : List Str) : SrtbD (l.map D.str) := .inl ⟨false, fun d hd => by
  obtain ⟨p, _, rfl⟩ := List.mem_map.mp hd
  exact ⟨rfl, rfl⟩⟩
end DL

set_option Elab.async false
set_option linter.all false
set_option maxRecDepth 100000
namespace DL
open PySem PySem.Spec PyProof.Rows L2

/-! ### sides -/
def lft (T : Tr) (d : Str → Str → Int) (a b : Str) : List Str := T.names.filter fun x => decide (d a x < d b x)
def sp_sides : SpT := fun ds e q => ∃ T d a b l, ds = [treeD T, .str a, .str b] ∧ Met T d ∧ Small T ∧ (b, l) ∈ T.adj a ∧ q (.tup [strsD (lft T d a b), strsD (lft T d b a)])
def N_sides : List Str := ["some_tree", "first", "second", "near", "other", "names", "name"]
def t_sides : ST := (sSeq (sSet 3 (eCall sp_distances_from (aCons (eVar 0) (aCons (eVar 1) aNil))))
  (sSeq (sSet 4 (eCall sp_distances_from (aCons (eVar 0) (aCons (eVar 2) aNil))))
  (sSeq (sSet 5 (eCall sp_names_of (aCons (eVar 0) aNil)))
  (sRet (eTupF (iConsF (eLc (itSeq (eVar 5)) [6] (tName 6) (bCmp fLt (eOp fIx (eVar 3) (eVar 6)) (eOp fIx (eVar 4) (eVar 6))) (eVar 6)) (iConsF (eLc (itSeq (eVar 5)) [6] (tName 6) (bCmp fLt (eOp fIx (eVar 4) (eVar 6)) (eOp fIx (eVar 3) (eVar 6))) (eVar 6)) aNil)))))))
theorem len_sides : ∀ ds e q, sp_sides ds e q → ds.length = ["some_tree", "first", "second"].length := by
  rintro _ e q ⟨T, d, a, b, l, rfl, _⟩
  rfl
theorem immA_strs (r : List Str) : immA (r.map D.str) = true := immA_map (fun _ => rfl) _
theorem Small.names {T : Tr} (h : Small T) : T.names.length ≤ 1000 := by
  rw [Tr.names, List.length_map]
  exact h.1
theorem m_sides : ∀ ds e q, sp_sides ds e q → t_sides { nx := fun _ => q .non, rt := q, xe := fun x _ => e x } (startD N_sides ds) := by
  rintro _ e q ⟨T, d, a, b, l, rfl, M, hsm, hl, h⟩
  obtain ⟨ha, hb, _⟩ := M.mem hl
  refine ⟨T, d, a, rfl, M, hsm, ha, fun near hn => ?_⟩
  refine ⟨T, d, b, rfl, M, hsm, hb, fun other ho => ?_⟩
  refine ⟨T, rfl, hsm, ?_⟩
  have l0 : (T.names.map D.str).length ≤ sizeLine := by
    rw [List.length_map]
    exact line1000 hsm.names
  refine ⟨⟨⟨trivial, trivial⟩, l0⟩, ?_⟩
  refine lcR_flt D.str (fun x => decide (d a x < d b x)) D.str T.names (fun x hx A B h1 h2 => ?_) _ ?_
  · exact ⟨.int (d a x), hn.look hx, .int (d b x), ho.look hx, ite2D h1 h2⟩
  refine ⟨immA_strs _, ⟨⟨trivial, trivial⟩, l0⟩, ?_⟩
  refine lcR_flt D.str (fun x => decide (d b x < d a x)) D.str T.names (fun x hx A B h1 h2 => ?_) _ ?_
  · exact ⟨.int (d b x), ho.look hx, .int (d a x), hn.look hx, ite2D h1 h2⟩
  exact ⟨immA_strs _, show 2 ≤ sizeLine by decide, rfl, h⟩
/-- the sides, by whether the way goes by the other end -/
theorem Met.side_on {T : Tr} {d : Str → Str → Int} (M : Met T d) {a b x : Str} {l : Int} (hl : (b, l) ∈ T.adj a) (hx : x ∈ T.names) : On d a x b ↔ ¬ d a x < d b x := by
  obtain ⟨ha, hb, pos, _⟩ := M.mem hl
  have e1 : d a b = l := by
    have := M.d0 a
    have := M.pos a b
    rcases M.step ha hl with q | q <;> omega
  have s1 := M.symd a x
  have s2 := M.symd b x
  unfold On
  rcases M.step hx hl with q | q
  · constructor
    · intro z
      omega
    · intro z
      omega
  · constructor
    · intro z
      omega
    · intro z
      omega
/-! ### is_group -/
def IsGrp (T : Tr) (d : Str → Str → Int) (r : List Str) : Prop := r ≠ [] ∧ AscT r ∧ (∀ x ∈ r, x ∈ T.names) ∧ Conv T d r
def sp_is_group : SpT := fun ds e q => ∃ T d r, ds = [treeD T, .tup (r.map .str)] ∧ Met T d ∧ Small T ∧ r.length ≤ 1000 ∧ StrsOk r ∧ ∀ b, (b = true ↔ IsGrp T d r) → q (.bl b)
/-- a comprehension without a test, at each item -/
theorem lcR_all {α : Type} (g : α → D) (h : α → D) {f : Gv} {tg : GT} {elt : ET} {δ : DSt} :
    ∀ (l : List α), (∀ a ∈ l, ∀ (A : D → Prop), A (h a) → tg f (g a) δ fun δ2 => elt xn δ2 fun t y => t.put (A y)) →
      ∀ (q : List D → Prop), q (l.map h) → lcR f tg bYes elt δ (l.map g) q
  | [], _, q, hq => hq
  | a :: l, ht, q, hq => ht a (by simp) (fun y => lcR f tg bYes elt δ (l.map g) fun ys => q (y :: ys)) (lcR_all g h l (fun b hb => ht b (List.mem_cons_of_mem _ hb)) _ hq)
theorem allB_map {α : Type} (p : α → Bool) : ∀ l : List α, allB (l.map fun a => D.bl (p a)) = some (l.map p)
  | [] => rfl
  | a :: l => by
    rw [List.map_cons, List.map_cons, allB, allB_map p l] <;> rfl
end DL

set_option Elab.async false
set_option linter.all false
set_option maxRecDepth 100000
namespace DL
open PySem PySem.Spec PyProof.Rows L2

/-! ### the number of nodes on a way; tops of groups -/
instance {d : Str → Str → Int} {a b x : Str} : Decidable (On d a b x) := inferInstanceAs (Decidable (_ = _))
def lw (T : Tr) (d : Str → Str → Int) (a b : Str) : Nat := (T.names.filter fun x => decide (On d a b x)).length
theorem mem_onF {T : Tr} {d : Str → Str → Int} {a b x : Str} : x ∈ T.names.filter (fun x => decide (On d a b x)) ↔ x ∈ T.names ∧ On d a b x := by
  rw [List.mem_filter, decide_eq_true_iff]
section
variable {T : Tr} {d : Str → Str → Int} (M : Met T d)
include M
theorem Met.path_nd {a b : Str} {r : List Str} (h : IsPath T d a b r) : r.Nodup := h.asc.imp fun {x y} z e => by
  rw [e] at z
  omega
theorem Met.path_lw {a b : Str} {r : List Str} (h : IsPath T d a b r) : r.length = lw T d a b :=
  ((List.perm_ext_iff_of_nodup (M.path_nd h) (M.nd.filter _)).mpr fun x => (h.mem x).trans mem_onF.symm).length_eq
theorem Met.on_trans {a b m x : Str} (ha : a ∈ T.names) (hb : b ∈ T.names) (hm : m ∈ T.names) (hx : x ∈ T.names) (h : On d a b m) (g : On d a m x) : On d a b x := by
  have t1 := M.tri hx hm hb
  have t2 := M.tri ha hx hb
  unfold On at *
  omega
theorem Met.on_symm {a b x : Str} : On d a b x ↔ On d b a x := by
  have s1 := M.symd a x
  have s2 := M.symd x b
  have s3 := M.symd a b
  unfold On
  omega
theorem Met.lw_le {a b m : Str} (ha : a ∈ T.names) (hb : b ∈ T.names) (hm : m ∈ T.names) (h : On d a b m) : lw T d a m ≤ lw T d a b :=
  len_of_sub (M.nd.filter _) fun x hx => by
    obtain ⟨h1, h2⟩ := mem_onF.mp hx
    exact mem_onF.mpr ⟨h1, M.on_trans ha hb hm h1 h h2⟩
theorem Met.lw_lt {a b m : Str} (ha : a ∈ T.names) (hb : b ∈ T.names) (hm : m ∈ T.names) (h : On d a b m) (ne : m ≠ b) : lw T d a m < lw T d a b := by
  have nb : b ∉ T.names.filter fun x => decide (On d a m x) := fun z => by
    obtain ⟨_, z⟩ := mem_onF.mp z
    have := M.pos m b
    have := M.symd m b
    unfold On at h z
    exact ne (M.of0 hm hb (by omega))
  have := len_of_sub (l := b :: T.names.filter fun x => decide (On d a m x)) (m := T.names.filter fun x => decide (On d a b x)) (List.nodup_cons.mpr ⟨nb, M.nd.filter _⟩) fun x hx => by
    rcases List.mem_cons.mp hx with rfl | hx
    · refine mem_onF.mpr ⟨hb, ?_⟩
      have := M.d0 x
      unfold On
      omega
    · obtain ⟨h1, h2⟩ := mem_onF.mp hx
      exact mem_onF.mpr ⟨h1, M.on_trans ha hb hm h1 h h2⟩
  exact this
/-- of two nodes on a way from o: the nearer one is on the way to the farther one -/
theorem Met.on_near {o x t u : Str} (ho : o ∈ T.names) (hx : x ∈ T.names) (ht : t ∈ T.names) (hu : u ∈ T.names) (h1 : On d o x t) (h2 : On d o x u) (le : d o t ≤ d o u) : On d o u t := by
  rcases M.on_or hu ho hx ht h1 with z | z
  · exact M.on_symm.mp z
  · have := M.pos u t
    have e : d u t = 0 := by
      have := M.symd t x
      have := M.symd u x
      unfold On at h1 h2 z
      omega
    have e := M.of0 hu ht e
    subst e
    have := M.d0 u
    unfold On
    omega
/-- a top: fewest nodes on the way to o -/
def IsTop (T : Tr) (d : Str → Str → Int) (o : Str) (r : List Str) (t : Str) : Prop := t ∈ r ∧ ∀ x ∈ r, lw T d o t ≤ lw T d o x
theorem Met.gate {o t : Str} {r : List Str} (ho : o ∈ T.names) (hr : ∀ x ∈ r, x ∈ T.names) (c : Conv T d r) (h : IsTop T d o r t) : ∀ x ∈ r, On d o x t := by
  intro x hx
  obtain ⟨m, hm, m1, m2, m3⟩ := M.meet ho (hr x hx) (hr t h.1)
  have mr : m ∈ r := c x hx t h.1 m hm m2
  by_cases e : m = t
  · rw [e] at m1
    exact m1
  · have := M.lw_lt ho (hr t h.1) hm m3 e
    have := h.2 m mr
    omega
theorem Met.top_eq {o t u : Str} {r : List Str} (ho : o ∈ T.names) (hr : ∀ x ∈ r, x ∈ T.names) (c : Conv T d r) (h : IsTop T d o r t) (g : IsTop T d o r u) : t = u := by
  have h1 := M.gate ho hr c h u g.1
  have h2 := M.gate ho hr c g t h.1
  have := M.pos t u
  have := M.symd t u
  unfold On at h1 h2
  exact M.of0 (hr t h.1) (hr u g.1) (by omega)
/-- two groups with a common node: the lower one's top is in the other one -/
theorem Met.top_in {o t u : Str} {r s : List Str} (ho : o ∈ T.names) (hr : ∀ x ∈ r, x ∈ T.names) (hs : ∀ x ∈ s, x ∈ T.names) (c : Conv T d r) (c' : Conv T d s) (h : IsTop T d o r t) (g : IsTop T d o s u) (le : lw T d o u ≤ lw T d o t) {x : Str} (hx : x ∈ r) (hx' : x ∈ s) : t ∈ s := by
  have h1 := M.gate ho hr c h x hx
  have h2 := M.gate ho hs c' g x hx'
  have nx := hr x hx
  have nt := hr t h.1
  have nu := hs u g.1
  have le2 : d o u ≤ d o t := by
    rcases Int.le_total (d o u) (d o t) with z | z
    · exact z
    · have z1 := M.on_near ho nx nt nu h1 h2 z
      by_cases e : t = u
      · rw [e]
        omega
      · have := M.lw_lt ho nu nt z1 e
        omega
  have h3 := M.on_near ho nx nu nt h2 h1 le2
  refine c' x hx' u g.1 t nt ?_
  have := M.symd x t
  have := M.symd x u
  have := M.symd t u
  unfold On at *
  omega
end
/-! ### the told hit -/
def takes (top : Nat → Str) (grp : Nat → List Str) : List Nat → List Str → List Nat → List Str × List Nat
  | [], tk, kp => (tk, kp)
  | k :: r, tk, kp => if (∀ x ∈ grp k, x ∉ tk) then takes top grp r (tk ++ [top k]) (kp ++ [k]) else takes top grp r tk kp
structure Taken (top : Nat → Str) (grp : Nat → List Str) (dep : Nat → Nat) (don : List Nat) (tk : List Str) (kp : List Nat) : Prop where
  tops : tk = kp.map top
  nd : tk.Nodup
  sub : ∀ k ∈ kp, k ∈ don
  hit : ∀ k ∈ don, ∃ x ∈ grp k, x ∈ tk
  apart : kp.Pairwise fun i j => ∀ x ∈ grp i, x ∉ grp j
theorem takes_ok (P : Nat → Prop) (top : Nat → Str) (grp : Nat → List Str) (dep : Nat → Nat) (ht : ∀ k, P k → top k ∈ grp k) (hin : ∀ i j, P i → P j → dep j ≤ dep i → (∃ x ∈ grp i, x ∈ grp j) → top i ∈ grp j) : ∀ (r don : List Nat) (tk : List Str) (kp : List Nat), (∀ k ∈ don ++ r, P k) → (don ++ r).Pairwise (fun i j => dep j ≤ dep i) →
    Taken top grp dep don tk kp → Taken top grp dep (don ++ r) (takes top grp r tk kp).1 (takes top grp r tk kp).2
  | [], don, tk, kp, _, _, h => by
    rw [List.append_nil]
    exact h
  | k :: r, don, tk, kp, hP, ord, h => by
    have e : don ++ k :: r = don ++ [k] ++ r := by simp
    rw [e] at ord hP ⊢
    have pk : P k := hP k (by simp)
    have pd : ∀ i ∈ don, P i := fun i hi => hP i (by simp [hi])
    unfold takes
    by_cases c : ∀ x ∈ grp k, x ∉ tk
    · rw [if_pos c]
      refine takes_ok P top grp dep ht hin r (don ++ [k]) _ _ hP ord ⟨?_, ?_, ?_, ?_, ?_⟩
      · rw [List.map_append, h.tops] <;> rfl
      · rw [List.nodup_append]
        refine ⟨h.nd, List.nodup_cons.mpr ⟨List.not_mem_nil, List.nodup_nil⟩, fun a ha b hb => ?_⟩
        rw [List.mem_singleton] at hb
        subst hb
        exact fun z => c (top k) (ht k pk) (by rw [← z]; exact ha)
      · intro i hi
        rcases List.mem_append.mp hi with hi | hi
        · exact List.mem_append.mpr (.inl (h.sub i hi))
        · exact List.mem_append.mpr (.inr hi)
      · intro i hi
        rcases List.mem_append.mp hi with hi | hi
        · obtain ⟨x, h1, h2⟩ := h.hit i hi
          exact ⟨x, h1, List.mem_append.mpr (.inl h2)⟩
        · rw [List.mem_singleton.mp hi]
          exact ⟨top k, ht k pk, by simp⟩
      · rw [List.pairwise_append]
        refine ⟨h.apart, List.pairwise_singleton _ _, fun i hi j hj x hx hx' => ?_⟩
        rw [List.mem_singleton] at hj
        subst hj
        have le : dep j ≤ dep i := by
          have o2 := (List.pairwise_append.mp ord).1
          exact (List.pairwise_append.mp o2).2.2 i (h.sub i hi) j (by simp)
        refine c (top i) (hin i j (pd i (h.sub i hi)) pk le ⟨x, hx, hx'⟩) ?_
        rw [h.tops]
        exact List.mem_map.mpr ⟨i, hi, rfl⟩
    · rw [if_neg c]
      refine takes_ok P top grp dep ht hin r (don ++ [k]) _ _ hP ord ⟨h.tops, h.nd, fun i hi => List.mem_append.mpr (.inl (h.sub i hi)), fun i hi => ?_, h.apart⟩
      rcases List.mem_append.mp hi with hi | hi
      · exact h.hit i hi
      · rw [List.mem_singleton.mp hi]
        have : ∃ x, x ∈ grp k ∧ x ∈ tk := by
          refine Classical.byContradiction fun z => c fun x h1 h2 => z ⟨x, h1, h2⟩
        obtain ⟨x, h1, h2⟩ := this
        exact ⟨x, h1, h2⟩
/-- as many as are apart, if all of these are hit: at least -/
theorem apart_le {grp : Nat → List Str} : ∀ {kp : List Nat} {row : List Str}, kp.Pairwise (fun i j => ∀ x ∈ grp i, x ∉ grp j) → (∀ k ∈ kp, ∃ x ∈ grp k, x ∈ row) → kp.length ≤ row.length
  | [], _, _, _ => Nat.zero_le _
  | k :: kp, row, h, g => by
    obtain ⟨x, h1, h2⟩ := g k (by simp)
    have p := List.pairwise_cons.mp h
    have := apart_le (row := row.erase x) p.2 fun j hj => by
      obtain ⟨y, y1, y2⟩ := g j (List.mem_cons_of_mem _ hj)
      have ne : y ≠ x := fun e => p.1 j hj x h1 (by rw [← e]; exact y1)
      exact ⟨y, y1, (List.mem_erase_of_ne ne).mpr y2⟩
    rw [List.length_erase_of_mem h2] at this
    have : 0 < row.length := List.length_pos_of_mem h2
    rw [List.length_cons]
    omega
/-! ### groups that meet pairwise -/
section
variable {T : Tr} {d : Str → Str → Int} (M : Met T d)
include M
theorem Met.helly {o : Str} {gs : List (List Str)} (ho : o ∈ T.names) (hn : ∀ r ∈ gs, ∀ x ∈ r, x ∈ T.names) (hc : ∀ r ∈ gs, Conv T d r) (h0 : ∀ r ∈ gs, r ≠ []) (hp : ∀ r ∈ gs, ∀ s ∈ gs, ∃ x ∈ r, x ∈ s) : ∃ x ∈ T.names, ∀ r ∈ gs, x ∈ r := by
  have tops : ∀ r ∈ gs, ∃ t, IsTop T d o r t := fun r hr => by
    have go : ∀ l : List Str, l ≠ [] → ∃ t, IsTop T d o l t := by
      intro l
      induction l with
      | nil => exact fun z => absurd rfl z
      | cons y l ih =>
        intro _
        by_cases e : l = []
        · subst e
          exact ⟨y, by simp, fun x hx => by rw [List.mem_singleton.mp hx]; exact Nat.le_refl _⟩
        · obtain ⟨t, t1, t2⟩ := ih e
          rcases Nat.le_total (lw T d o t) (lw T d o y) with c | c
          · refine ⟨t, List.mem_cons_of_mem _ t1, fun x hx => ?_⟩
            rcases List.mem_cons.mp hx with rfl | hx
            · exact c
            · exact t2 x hx
          · refine ⟨y, by simp, fun x hx => ?_⟩
            rcases List.mem_cons.mp hx with rfl | hx
            · exact Nat.le_refl _
            · exact Nat.le_trans c (t2 x hx)
    exact go r (h0 r hr)
  -- the group with the lowest top
  have low : ∀ l : List (List Str), l ≠ [] → (∀ r ∈ l, r ∈ gs) → ∃ r ∈ l, ∃ t, IsTop T d o r t ∧ ∀ s ∈ l, ∀ u, IsTop T d o s u → lw T d o u ≤ lw T d o t := by
    intro l
    induction l with
    | nil => exact fun z => absurd rfl z
    | cons y l ih =>
      intro _ hl
      obtain ⟨ty, hty⟩ := tops y (hl y (by simp))
      have uy : ∀ u, IsTop T d o y u → lw T d o u = lw T d o ty := fun u hu => by
        have := hu.2 ty hty.1
        have := hty.2 u hu.1
        omega
      by_cases e : l = []
      · subst e
        refine ⟨y, by simp, ty, hty, fun s hs u hu => ?_⟩
        rw [List.mem_singleton.mp hs] at hu
        rw [uy u hu]
        exact Nat.le_refl _
      · obtain ⟨r, hr, t, ht, hm⟩ := ih e fun s hs => hl s (List.mem_cons_of_mem _ hs)
        rcases Nat.le_total (lw T d o ty) (lw T d o t) with c | c
        · refine ⟨r, List.mem_cons_of_mem _ hr, t, ht, fun s hs u hu => ?_⟩
          rcases List.mem_cons.mp hs with rfl | hs
          · rw [uy u hu]
            exact c
          · exact hm s hs u hu
        · refine ⟨y, by simp, ty, hty, fun s hs u hu => ?_⟩
          rcases List.mem_cons.mp hs with rfl | hs
          · rw [uy u hu]
            exact Nat.le_refl _
          · exact Nat.le_trans (hm s hs u hu) c
  by_cases e : gs = []
  · subst e
    exact ⟨o, ho, fun _ z => nomatch z⟩
  · obtain ⟨r, hr, t, ht, hm⟩ := low gs e fun _ z => z
    refine ⟨t, hn r hr t ht.1, fun s hs => ?_⟩
    obtain ⟨u, hu⟩ := tops s hs
    obtain ⟨x, x1, x2⟩ := hp r hr s hs
    exact M.top_in ho (hn r hr) (hn s hs) (hc r hr) (hc s hs) ht hu (hm s hs u hu) x1 x2
end
end DL

set_option Elab.async false
set_option linter.all false
set_option maxRecDepth 100000
namespace DL
open PySem PySem.Spec PyProof.Rows L2

/-! ### ways: a path grows by a node -/
section
variable {T : Tr} {d : Str → Str → Int} {a x y : Str} {l : Int}
theorem Met.edge_on (M : Met T d) (ha : a ∈ T.names) (hx : x ∈ T.names) (hl : (y, l) ∈ T.adj x) (e : d a y = d a x + l) : On d a y x := by
  have hy := (M.mem hl).2.1
  obtain ⟨v, k, hv, e1, e2⟩ : ∃ v k, (v, k) ∈ T.adj y ∧ d a y = d a v + k ∧ On d a y v := by
    have hs := M.sym hl
    have z := M.on_step ha hy hy (by have := M.d0 y; unfold On; omega : On d a y y) hs e
    exact ⟨x, l, hs, e, z⟩
  have := M.uniq ha hv (M.sym hl) e1 e
  subst this
  exact e2
theorem Met.up_shift (M : Met T d) (ha : a ∈ T.names) (hl : (y, l) ∈ T.adj x) (e : d a y = d a x + l) : ∀ {n : Nat} {z : Str}, Up T d a y (n + 1) z → Up T d a x n z
  | 0, z, .succ .zero hv ev => by
    have := M.uniq ha hv (M.sym hl) ev e
    subst this
    exact .zero
  | n + 1, z, .succ u hv ev => .succ (Met.up_shift M ha hl e u) hv ev
theorem Met.on_snoc (M : Met T d) (ha : a ∈ T.names) (hx : x ∈ T.names) (hl : (y, l) ∈ T.adj x) (e : d a y = d a x + l) {z : Str} (hz : z ∈ T.names) : On d a y z ↔ On d a x z ∨ z = y := by
  have hy := (M.mem hl).2.1
  constructor
  · intro o
    obtain ⟨n, u⟩ := M.on_up ha hy hz o
    cases n with
    | zero =>
      cases u
      exact .inr rfl
    | succ n => exact .inl (M.up_on ha hx (M.up_shift ha hl e u))
  · rintro (o | rfl)
    · exact M.on_trans ha hy hx hz (M.edge_on ha hx hl e) o
    · have := M.d0 z
      unfold On
      omega
theorem filter_more {p q : Str → Bool} {y : Str} : ∀ {l : List Str}, l.Nodup → y ∈ l → p y = false → (∀ z ∈ l, q z = (p z || decide (z = y))) → (l.filter q).length = (l.filter p).length + 1
  | z :: l, nd, hy, py, h => by
    obtain ⟨n1, n2⟩ := List.nodup_cons.mp nd
    by_cases e : z = y
    · subst e
      have same : l.filter q = l.filter p := List.filter_congr fun w hw => by
        rw [h w (List.mem_cons_of_mem _ hw)]
        have : w ≠ z := fun e => n1 (e ▸ hw)
        simp [this]
      have qz : q z = true := by rw [h z (by simp)]; simp
      rw [List.filter_cons, List.filter_cons, if_pos qz, if_neg (by rw [py]; exact Bool.false_ne_true), same, List.length_cons]
    · have hy : y ∈ l := by
        rcases List.mem_cons.mp hy with q | q
        · exact absurd q.symm e
        · exact q
      have ih := filter_more (p := p) (q := q) n2 hy py fun w hw => h w (List.mem_cons_of_mem _ hw)
      have qz : q z = p z := by rw [h z (by simp)]; simp [e]
      rw [List.filter_cons, List.filter_cons, qz]
      split
      · rw [List.length_cons, List.length_cons, ih]
      · exact ih
theorem Met.lw_step (M : Met T d) (ha : a ∈ T.names) (h : (y, l) ∈ T.away d a x) : lw T d a y = lw T d a x + 1 := by
  obtain ⟨h1, h2⟩ := mem_away.mp h
  obtain ⟨hx, hy, l1, _⟩ := M.mem h1
  refine filter_more M.nd hy (decide_eq_false fun z => ?_) fun z hz => ?_
  · unfold On at z
    have := M.pos y x
    omega
  · have := M.on_snoc ha hx h1 h2 hz
    by_cases c : On d a x z
    · simp [c, this.mpr (.inl c)]
    · by_cases e : z = y
      · rw [decide_eq_true (this.mpr (.inr e))]
        simp [e]
      · rw [decide_eq_false fun q => (this.mp q).elim c e]
        simp [c, e]
theorem Met.lw_root (M : Met T d) (ha : a ∈ T.names) : lw T d a a = 1 := by
  refine Nat.le_antisymm ?_ ?_
  · have := len_of_sub (l := T.names.filter fun x => decide (On d a a x)) (m := [a]) (M.nd.filter _) fun x hx => by
      obtain ⟨h1, h2⟩ := mem_onF.mp hx
      unfold On at h2
      have := M.d0 a
      have := M.pos a x
      have := M.pos x a
      rw [M.of0 ha h1 (by omega)]
      simp
    exact this
  · refine List.length_pos_of_mem (a := a) (mem_onF.mpr ⟨ha, ?_⟩)
    have := M.d0 a
    unfold On
    omega
end
end DL

set_option Elab.async false
set_option linter.all false
set_option maxRecDepth 100000
namespace DL
open PySem PySem.Spec PyProof.Rows L2

/-! ### loads, branches, medians -/
def loadT (T : Tr) (d : Str → Str → Int) (x : Str) : Int := (T.nodes.map fun p => p.2 * d x p.1).sum
def partT (T : Tr) (d : Str → Str → Int) (x v : Str) : Int := (T.nodes.map fun p => if On d x p.1 v then p.2 else 0).sum
def totT (T : Tr) : Int := (T.nodes.map (·.2)).sum
theorem sum_le {α : Type} {f g : α → Int} : ∀ {l : List α}, (∀ a ∈ l, f a ≤ g a) → (l.map f).sum ≤ (l.map g).sum
  | [], _ => Int.le_refl _
  | a :: l, h => by
    rw [List.map_cons, List.map_cons, List.sum_cons, List.sum_cons]
    have h1 := h a (by simp)
    have h2 := sum_le (l := l) fun b hb => h b (List.mem_cons_of_mem _ hb)
    omega
theorem sum_if {α : Type} {p : α → Prop} [DecidablePred p] {f : α → Int} : ∀ (l : List α), ((l.filter fun a => decide (p a)).map f).sum = (l.map fun a => if p a then f a else 0).sum
  | [] => rfl
  | a :: l => by
    rw [List.map_cons, List.sum_cons, List.filter_cons]
    by_cases c : p a
    · rw [if_pos (decide_eq_true c), if_pos c, List.map_cons, List.sum_cons, sum_if l]
    · rw [if_neg (by rw [decide_eq_false c]; exact Bool.false_ne_true), if_neg c, sum_if l, Int.zero_add]
section
variable {T : Tr} {d : Str → Str → Int} (M : Met T d)
include M
theorem Met.adj_d {x v : Str} {l : Int} (h : (v, l) ∈ T.adj x) : d x v = l := by
  obtain ⟨hx, hv, pos, _⟩ := M.mem h
  have := M.d0 x
  have := M.pos x v
  rcases M.step hx h with q | q <;> omega
theorem Met.load_edge {x v : Str} {l : Int} (h : (v, l) ∈ T.adj x) : loadT T d v - loadT T d x = l * (totT T - 2 * partT T d x v) := by
  obtain ⟨hx, hv, pos, _⟩ := M.mem h
  have ed := M.adj_d h
  have go : ∀ r : List (Str × Int), (∀ p ∈ r, p.1 ∈ T.names) → (r.map fun p => p.2 * d v p.1).sum - (r.map fun p => p.2 * d x p.1).sum = l * ((r.map (·.2)).sum - 2 * (r.map fun p => if On d x p.1 v then p.2 else 0).sum) := by
    intro r
    induction r with
    | nil =>
      intro _
      show (0 : Int) - 0 = l * (0 - 2 * 0)
      simp
    | cons p r ih =>
      intro hr
      have ih := ih fun q hq => hr q (List.mem_cons_of_mem _ hq)
      have hp := hr p (by simp)
      simp only [List.map_cons, List.sum_cons]
      have s1 := M.symd x p.1
      have s2 := M.symd v p.1
      have one : p.2 * d v p.1 - p.2 * d x p.1 = l * (p.2 - 2 * (if On d x p.1 v then p.2 else 0)) := by
        rw [← Int.mul_sub]
        rcases M.step hp h with q | q
        · rw [if_neg (by unfold On; omega), show d v p.1 - d x p.1 = l by omega, Int.mul_zero, Int.sub_zero, Int.mul_comm]
        · rw [if_pos (by unfold On; omega), show d v p.1 - d x p.1 = -l by omega, show p.2 - 2 * p.2 = -p.2 by omega, Int.mul_neg, Int.mul_neg, Int.mul_comm]
      have dist : ∀ a b c e : Int, l * (a + b - 2 * (c + e)) = l * (a - 2 * c) + l * (b - 2 * e) := fun a b c e => by
        rw [← Int.mul_add]
        congr 1
        omega
      rw [dist, ← one, ← ih]
      omega
  exact go T.nodes fun p hp => List.mem_map.mpr ⟨p, hp, rfl⟩
/-- what lies beyond a farther edge lies beyond the first one -/
theorem Met.part_le {x y u v : Str} {l k : Int} (hw : ∀ p ∈ T.nodes, 0 ≤ p.2) (hx : x ∈ T.names) (hu : (y, l) ∈ T.adj u) (eu : d x y = d x u + l) (hv : (v, k) ∈ T.adj x) (ov : On d x y v) : partT T d u y ≤ partT T d x v := by
  obtain ⟨nu, ny, pl, _⟩ := M.mem hu
  have nv := (M.mem hv).2.1
  refine sum_le fun p hp => ?_
  have np : p.1 ∈ T.names := List.mem_map.mpr ⟨p, hp, rfl⟩
  have w := hw p hp
  by_cases c : On d u p.1 y
  · have oxy : On d x p.1 y := by
      by_cases e : p.1 = y
      · rw [e]
        have := M.d0 y
        unfold On
        omega
      · obtain ⟨z, m, hz, ez⟩ := M.par np ny e
        refine M.apart_on hx np ny (M.sym hu) eu hz ez fun e2 => ?_
        subst e2
        have pm := (M.mem hz).2.2.1
        have s1 := M.symd u y
        have s2 := M.symd u p.1
        have s3 := M.symd y p.1
        have := M.pos u y
        unfold On at c
        omega
    rw [if_pos c, if_pos (M.on_trans hx np ny nv oxy ov)]
    exact Int.le_refl _
  · rw [if_neg c]
    split
    · exact w
    · exact Int.le_refl _
theorem Met.median_iff {x : Str} (hw : ∀ p ∈ T.nodes, 0 ≤ p.2) (hx : x ∈ T.names) : (∀ y ∈ T.names, loadT T d x ≤ loadT T d y) ↔ ∀ v l, (v, l) ∈ T.adj x → 2 * partT T d x v ≤ totT T := by
  constructor
  · intro h v l hv
    have e := M.load_edge hv
    obtain ⟨_, nv, pos, _⟩ := M.mem hv
    have := h v nv
    refine Classical.byContradiction fun z => ?_
    have neg : totT T - 2 * partT T d x v ≤ -1 := by omega
    have := Int.mul_le_mul_of_nonneg_left neg (show 0 ≤ l by omega)
    omega
  · intro h
    have go : ∀ (n : Nat) (y : Str), y ∈ T.names → (d x y).toNat ≤ n → loadT T d x ≤ loadT T d y := by
      intro n
      induction n with
      | zero =>
        intro y hy hn
        have := M.pos x y
        have e := M.of0 hx hy (by omega)
        rw [e]
        exact Int.le_refl _
      | succ n ih =>
        intro y hy hn
        by_cases e : x = y
        · rw [e]
          exact Int.le_refl _
        · obtain ⟨u, l, hu, eu⟩ := M.par hx hy e
          obtain ⟨_, nu, pl, _⟩ := M.mem hu
          have := M.pos x u
          have i1 := ih u nu (by omega)
          obtain ⟨v, k, hv, _, ov⟩ := M.on_next hx hy hx (by have := M.d0 x; unfold On; omega) e
          have le := M.part_le hw hx (M.sym hu) eu hv ov
          have := h v k hv
          have e2 := M.load_edge (M.sym hu)
          have := Int.mul_nonneg (show 0 ≤ l by omega) (show 0 ≤ totT T - 2 * partT T d u y by omega)
          omega
    exact fun y hy => go _ y hy (Nat.le_refl _)
end
end DL

set_option Elab.async false
set_option linter.all false
set_option maxRecDepth 100000
/-! Trees by recursion: what is below a node, seen from s; sums over it. -/
namespace DL
open PySem PySem.Spec PyProof.Rows L2
/-! ### sums -/
def sumM {α : Type} (f : α → Int) : List α → Int
  | [] => 0
  | a :: l => f a + sumM f l
theorem sumM_eq {α : Type} (f : α → Int) : ∀ l : List α, (l.map f).sum = sumM f l
  | [] => rfl
  | a :: l => by rw [List.map_cons, List.sum_cons, sumM_eq f l] <;> rfl
theorem sumM_cgr {α : Type} {f g : α → Int} : ∀ {l : List α}, (∀ a ∈ l, f a = g a) → sumM f l = sumM g l
  | [], _ => rfl
  | a :: l, h => by rw [sumM, sumM, h a (by simp), sumM_cgr (l := l) fun b hb => h b (List.mem_cons_of_mem _ hb)]
theorem sumM_add {α : Type} (f g : α → Int) : ∀ l : List α, sumM (fun a => f a + g a) l = sumM f l + sumM g l
  | [] => rfl
  | a :: l => by rw [sumM, sumM, sumM, sumM_add f g l]; omega
theorem sumM_zero {α : Type} {f : α → Int} : ∀ {l : List α}, (∀ a ∈ l, f a = 0) → sumM f l = 0
  | [], _ => rfl
  | a :: l, h => by rw [sumM, h a (by simp), sumM_zero (l := l) fun b hb => h b (List.mem_cons_of_mem _ hb)] <;> rfl
theorem sumM_comm {α β : Type} (f : α → β → Int) : ∀ (l : List α) (m : List β), sumM (fun a => sumM (f a) m) l = sumM (fun b => sumM (fun a => f a b) l) m
  | [], m => (sumM_zero (l := m) fun _ _ => rfl).symm
  | a :: l, m => by
    rw [sumM, sumM_comm f l m, ← sumM_add]
    exact sumM_cgr fun b _ => rfl
theorem sumM_perm {α : Type} (f : α → Int) {l m : List α} (p : l.Perm m) : sumM f l = sumM f m := by
  induction p with
  | nil => rfl
  | cons a _ ih => rw [sumM, sumM, ih]
  | swap a b l => rw [sumM, sumM, sumM, sumM]; omega
  | trans _ _ ih1 ih2 => exact ih1.trans ih2
theorem sumM_filter {α : Type} (f : α → Int) (p : α → Bool) : ∀ l : List α, sumM f (l.filter p) = sumM (fun a => if p a = true then f a else 0) l
  | [] => rfl
  | a :: l => by
    rw [List.filter_cons, sumM]
    by_cases c : p a = true
    · rw [if_pos c, if_pos c, sumM, sumM_filter f p l]
    · rw [if_neg c, if_neg c, sumM_filter f p l, Int.zero_add]
theorem sumM_filterMap {α β : Type} (f : β → Int) (p : α → Option β) : ∀ l : List α, sumM f (l.filterMap p) = sumM (fun a => match p a with | some b => f b | none => 0) l
  | [] => rfl
  | a :: l => by
    rw [List.filterMap_cons, sumM]
    cases c : p a with
    | none => rw [sumM_filterMap f p l]; exact (Int.zero_add _).symm
    | some b => rw [sumM, sumM_filterMap f p l]
theorem sumM_map {α β : Type} (f : β → Int) (g : α → β) : ∀ l : List α, sumM f (l.map g) = sumM (fun a => f (g a)) l
  | [] => rfl
  | a :: l => by rw [List.map_cons, sumM, sumM, sumM_map f g l]
theorem sumM_append {α : Type} (f : α → Int) : ∀ l m : List α, sumM f (l ++ m) = sumM f l + sumM f m
  | [], m => (Int.zero_add _).symm
  | a :: l, m => by rw [List.cons_append, sumM, sumM, sumM_append f l m]; omega
theorem sumM_nonneg {α : Type} {f : α → Int} : ∀ {l : List α}, (∀ a ∈ l, 0 ≤ f a) → 0 ≤ sumM f l
  | [], _ => Int.le_refl 0
  | a :: l, h => by
    have h1 := h a (by simp)
    have h2 := sumM_nonneg (l := l) fun b hb => h b (List.mem_cons_of_mem _ hb)
    rw [sumM]
    omega
theorem sumM_le {α : Type} {f g : α → Int} : ∀ {l : List α}, (∀ a ∈ l, f a ≤ g a) → sumM f l ≤ sumM g l
  | [], _ => Int.le_refl 0
  | a :: l, h => by
    have h1 := h a (by simp)
    have h2 := sumM_le (l := l) fun b hb => h b (List.mem_cons_of_mem _ hb)
    rw [sumM, sumM]
    omega
/-- just one counts -/
theorem sumM_one {α : Type} {l : List (Str × α)} {f : Str × α → Int} {p : Str × α} (nd : (l.map (·.1)).Nodup) (hp : p ∈ l) (h : ∀ q ∈ l, q.1 ≠ p.1 → f q = 0) : sumM f l = f p := by
  induction l with
  | nil => cases hp
  | cons a l ih =>
    obtain ⟨n1, n2⟩ := List.nodup_cons.mp nd
    rw [sumM]
    rcases List.mem_cons.mp hp with e | hp
    · subst e
      rw [sumM_zero (l := l) fun q hq => h q (List.mem_cons_of_mem _ hq) fun e => n1 (List.mem_map.mpr ⟨q, hq, e⟩), Int.add_zero]
    · rw [ih n2 hp fun q hq => h q (List.mem_cons_of_mem _ hq), h a (by simp) fun e => n1 (List.mem_map.mpr ⟨p, hp, e.symm⟩), Int.zero_add]
theorem sumM_at {x : Str} {f : Str → Int} : ∀ {l : List Str}, l.Nodup → x ∈ l → sumM (fun z => if z = x then f z else 0) l = f x
  | a :: l, nd, hx => by
    obtain ⟨n1, n2⟩ := List.nodup_cons.mp nd
    rw [sumM]
    rcases List.mem_cons.mp hx with e | hx
    · subst e
      rw [if_pos rfl, sumM_zero (l := l) fun z hz => if_neg fun e => n1 (by rw [← e]; exact hz), Int.add_zero]
    · rw [if_neg fun e => n1 (by rw [e]; exact hx), sumM_at n2 hx, Int.zero_add]
/-! ### below -/
def blw (T : Tr) (d : Str → Str → Int) (s x : Str) : List Str := T.names.filter fun z => decide (On d s z x)
section
variable {T : Tr} {d : Str → Str → Int} {s x y z : Str} {l : Int}
theorem mem_blw : z ∈ blw T d s x ↔ z ∈ T.names ∧ On d s z x := by
  unfold blw
  rw [List.mem_filter, decide_eq_true_iff]
theorem blw_self (M : Met T d) (hx : x ∈ T.names) : x ∈ blw T d s x := mem_blw.mpr ⟨hx, by have := M.d0 x; unfold On; omega⟩
theorem blw_root (M : Met T d) : blw T d s s = T.names := by
  unfold blw
  rw [List.filter_eq_self]
  intro z _
  have := M.d0 s
  exact decide_eq_true (by unfold On; omega)
theorem away_mem (M : Met T d) (h : (y, l) ∈ T.away d s x) : x ∈ T.names ∧ y ∈ T.names ∧ 1 ≤ l ∧ d s y = d s x + l := by
  obtain ⟨h1, h2⟩ := mem_away.mp h
  obtain ⟨a, b, c, _⟩ := M.mem h1
  exact ⟨a, b, c, h2⟩
theorem away_on (M : Met T d) (hs : s ∈ T.names) (h : (y, l) ∈ T.away d s x) : On d s y x := by
  obtain ⟨h1, h2⟩ := mem_away.mp h
  exact M.edge_on hs (M.mem h1).1 h1 h2
theorem blw_up (M : Met T d) (hs : s ∈ T.names) (h : (y, l) ∈ T.away d s x) (hz : z ∈ T.names) (o : On d s z y) : On d s z x := by
  obtain ⟨a, b, _, _⟩ := away_mem M h
  exact M.on_trans hs hz b a o (away_on M hs h)
theorem blw_no (M : Met T d) (h : (y, l) ∈ T.away d s x) : ¬ On d s x y := fun o => by
  obtain ⟨_, _, l1, e⟩ := away_mem M h
  have := M.on_le o
  omega
theorem blw_next (M : Met T d) (hs : s ∈ T.names) (hx : x ∈ T.names) (hz : z ∈ T.names) (o : On d s z x) (n : z ≠ x) : ∃ y l, (y, l) ∈ T.away d s x ∧ On d s z y := by
  obtain ⟨v, l, h1, h2, h3⟩ := M.on_next hs hz hx o (fun e => n e.symm)
  exact ⟨v, l, mem_away.mpr ⟨h1, h2⟩, h3⟩
theorem blw_uniq (M : Met T d) (hs : s ∈ T.names) (hz : z ∈ T.names) {y' : Str} {l' : Int} (h : (y, l) ∈ T.away d s x) (h' : (y', l') ∈ T.away d s x) (o : On d s z y) (o' : On d s z y') : y = y' := by
  have go : ∀ {y y' : Str} {l l' : Int}, (y, l) ∈ T.away d s x → (y', l') ∈ T.away d s x → On d s z y → On d s z y' → d s y ≤ d s y' → y = y' := fun {y y' l l'} h h' o o' le => by
    obtain ⟨hx, hy, l1, e1⟩ := away_mem M h
    obtain ⟨_, hy', _, e2⟩ := away_mem M h'
    have o2 := M.on_near hs hz hy hy' o o' le
    rcases (M.on_snoc hs hx (mem_away.mp h').1 e2 hy).mp o2 with q | q
    · have := M.on_le q
      omega
    · exact q
  rcases Int.le_total (d s y) (d s y') with c | c
  · exact go h h' o o' c
  · exact (go h' h o' o c).symm
theorem blw_lt (M : Met T d) (hs : s ∈ T.names) (h : (y, l) ∈ T.away d s x) : (blw T d s y).length < (blw T d s x).length := by
  obtain ⟨hx, hy, _, _⟩ := away_mem M h
  have nd : (x :: blw T d s y).Nodup := List.nodup_cons.mpr ⟨fun z => blw_no M h (mem_blw.mp z).2, M.nd.filter _⟩
  have := len_of_subA nd (m := blw T d s x) fun w hw => by
    rcases List.mem_cons.mp hw with rfl | hw
    · exact blw_self M hx
    · obtain ⟨w1, w2⟩ := mem_blw.mp hw
      exact mem_blw.mpr ⟨w1, blw_up M hs h w1 w2⟩
  rw [List.length_cons] at this
  omega
/-- counted below x: x, or below just one node next to it -/
theorem blw_pt (M : Met T d) (hs : s ∈ T.names) (hx : x ∈ T.names) (hz : z ∈ T.names) (c : Int) : (if On d s z x then c else 0) = (if z = x then c else 0) + sumM (fun p : Str × Int => if On d s z p.1 then c else 0) (T.away d s x) := by
  by_cases o : On d s z x
  · rw [if_pos o]
    by_cases e : z = x
    · subst e
      rw [if_pos rfl, sumM_zero fun p hp => if_neg (blw_no M hp), Int.add_zero]
    · rw [if_neg e]
      obtain ⟨y, l, hy, oy⟩ := blw_next M hs hx hz o e
      rw [sumM_one (p := (y, l)) (away_nd M) hy fun q hq n => if_neg fun oq => n (blw_uniq M hs hz hq hy oq oy), if_pos oy, Int.zero_add]
  · rw [if_neg o, if_neg (fun e => o (by subst e; have := M.d0 z; unfold On; omega)), sumM_zero fun p hp => if_neg fun oq => o (blw_up M hs hp hz oq)]
    rfl
/-- sums over nodes below -/
def nS (T : Tr) (d : Str → Str → Int) (s : Str) (f : Str → Int) (x : Str) : Int := sumM (fun z => if On d s z x then f z else 0) T.names
theorem nS_blw (f : Str → Int) : nS T d s f x = sumM f (blw T d s x) := by
  unfold nS blw
  rw [sumM_filter]
  exact sumM_cgr fun z _ => by by_cases c : On d s z x <;> simp [c]
theorem nS_step (M : Met T d) (hs : s ∈ T.names) (hx : x ∈ T.names) (f : Str → Int) : nS T d s f x = f x + sumM (fun p => nS T d s f p.1) (T.away d s x) := by
  unfold nS
  rw [sumM_cgr fun z hz => blw_pt M hs hx hz (f z), sumM_add, sumM_at M.nd hx, sumM_comm]
theorem nS_root (M : Met T d) (f : Str → Int) : nS T d s f s = sumM f T.names := by rw [nS_blw, blw_root M]
/-! ### edges below, told by their far ends -/
theorem near_perm (a : Str) : (T.near a).Perm (T.adj a) := sort2_perm _
theorem kid_adj (M : Met T d) (hs : s ∈ T.names) {e : Str × Str × Int} (he : e ∈ T.edges) : (kid d s e, e.2.2) ∈ T.away d s (eld d s e) := by
  obtain ⟨h1, h2⟩ := M.kid_eld hs he
  exact mem_away.mpr ⟨M.sym (List.mem_filterMap.mpr ⟨e, he, h1⟩), h2⟩
theorem beside_two {a : Str} {e : Str × Str × Int} {p : Str × Int} (h : beside a e = some p) : (e.1 = a ∧ p = (e.2.1, e.2.2)) ∨ (e.2.1 = a ∧ p = (e.1, e.2.2)) := by
  unfold beside at h
  split at h
  · rename_i c
    exact .inl ⟨c, (Option.some.inj h).symm⟩
  · split at h
    · rename_i c
      exact .inr ⟨c, (Option.some.inj h).symm⟩
    · cases h
theorem away_sum (M : Met T d) (hs : s ∈ T.names) (g : Str × Int → Int) : sumM g (T.away d s x) = sumM (fun e => if eld d s e = x then g (kid d s e, e.2.2) else 0) T.edges := by
  unfold Tr.away
  rw [sumM_filter, sumM_perm _ (near_perm x)]
  unfold Tr.adj
  rw [sumM_filterMap]
  refine sumM_cgr fun e he => ?_
  have k := kid_adj M hs he
  obtain ⟨k1, k2⟩ := mem_away.mp k
  have kp := (M.mem k1).2.2.1
  have ne := (M.mem k1).2.2.2
  have both : (kid d s e = e.2.1 ∧ eld d s e = e.1) ∨ (kid d s e = e.1 ∧ eld d s e = e.2.1) := by
    unfold kid eld
    by_cases c : d s e.1 < d s e.2.1
    · rw [if_pos c, if_pos c]
      exact .inl ⟨rfl, rfl⟩
    · rw [if_neg c, if_neg c]
      exact .inr ⟨rfl, rfl⟩
  by_cases c : eld d s e = x
  · rw [if_pos c]
    have hb : beside x e = some (kid d s e, e.2.2) := by
      unfold beside
      rcases both with ⟨b1, b2⟩ | ⟨b1, b2⟩
      · rw [if_pos (b2.symm.trans c), b1]
      · rw [if_neg (fun z => ne (b1.trans (z.trans c.symm))), if_pos (b2.symm.trans c), b1]
    rw [hb]
    show (if decide (d s (kid d s e) = d s x + e.2.2) = true then _ else _) = _
    rw [if_pos (decide_eq_true (by rw [← c]; exact k2))]
  · rw [if_neg c]
    cases hb : beside x e with
    | none => rfl
    | some p =>
      show (if decide (d s p.1 = d s x + p.2) = true then _ else _) = _
      rw [if_neg]
      intro z
      have z := of_decide_eq_true z
      rcases beside_two hb with ⟨q1, rfl⟩ | ⟨q1, rfl⟩
      · rcases both with ⟨b1, b2⟩ | ⟨b1, b2⟩
        · exact c (b2.trans q1)
        · have z : d s e.2.1 = d s x + e.2.2 := z
          rw [← b2] at z
          rw [← q1, ← b1] at z
          omega
      · rcases both with ⟨b1, b2⟩ | ⟨b1, b2⟩
        · have z : d s e.1 = d s x + e.2.2 := z
          rw [← b2] at z
          rw [← q1, ← b1] at z
          omega
        · exact c (b2.trans q1)
def eS (T : Tr) (d : Str → Str → Int) (s : Str) (g : Str → Int → Int) (x : Str) : Int := sumM (fun e => if On d s (eld d s e) x then g (kid d s e) e.2.2 else 0) T.edges
theorem eS_step (M : Met T d) (hs : s ∈ T.names) (hx : x ∈ T.names) (g : Str → Int → Int) : eS T d s g x = sumM (fun p => g p.1 p.2 + eS T d s g p.1) (T.away d s x) := by
  unfold eS
  have hz : ∀ e ∈ T.edges, eld d s e ∈ T.names := fun e he => (away_mem M (kid_adj M hs he)).1
  rw [sumM_cgr fun e he => blw_pt M hs hx (hz e he) (g (kid d s e) e.2.2), sumM_add, sumM_comm, sumM_add, away_sum M hs (fun p => g p.1 p.2)]
theorem eS_root (M : Met T d) (hs : s ∈ T.names) (g : Str → Int → Int) : eS T d s g s = sumM (fun e => g (kid d s e) e.2.2) T.edges := by
  unfold eS
  refine sumM_cgr fun e he => if_pos ?_
  have := M.d0 s
  unfold On
  omega
end
end DL

set_option Elab.async false
set_option linter.all false
set_option maxRecDepth 100000
namespace DL
open PySem PySem.Spec PyProof.Rows L2

/-! ### small things of all laws -/
theorem forR_idx {α : Type} (l : List α) (Inv : Nat → List α → DSt → Prop) {f : Gv} {tg : GT} {tb : ST} {fg : List Nat} {E : En} (h0 : ∀ δ, Inv l.length [] δ → E.nx δ)
    (h1 : ∀ i a r δ (nx : DSt → Prop), l[i]? = some a → i + (r.length + 1) = l.length → Inv i (a :: r) δ → (∀ δ', Inv (i + 1) r δ' → nx δ') → tg f (.int (i : Int)) δ fun δ2 => tb { E with nx := fun δ' => nx (forget fg δ'), ct := fun δ' => nx (forget fg δ'), bk := E.nx } δ2)
    {n : Nat} (hn : n = l.length) (δ : DSt) (h : Inv 0 l δ) : forR f tg tb fg E (rangeD 0 n) δ := by
  subst hn
  refine forR_upto (fun i δ => Inv i (l.drop i) δ) (fun δ h => h0 δ (by rw [List.drop_length] at h; exact h)) (fun i δ nx hi h hnx => ?_) δ h
  have e := List.drop_eq_getElem_cons hi
  rw [e] at h
  have ll := congrArg List.length e
  rw [List.length_cons, List.length_drop] at ll
  exact h1 i l[i] (l.drop (i + 1)) δ nx (List.getElem?_eq_getElem hi) (by omega) h hnx
theorem at_map {α : Type} (g : α → D) {l : List α} {i : Nat} {a : α} (h : l[i]? = some a) : atI (l.map g) (i : Int) = some (g a) := atI_nat (by rw [List.getElem?_map, h] <;> rfl)
theorem same_ways2 {d : D} {q : Bool → Prop} (hd : d.ok = true) (dd : d.dep ≤ 64) (h : q false) : fNe d d q := ne_ways hd hd dd dd (fun _ => h) fun z => absurd rfl z
/-! ### slices -/
theorem cutD_len2 (xs : List D) (a b : Option Int) : (cutD xs a b).length ≤ xs.length := by
  unfold cutD
  rw [List.length_take, List.length_drop]
  omega
theorem cut_to {α : Type} (g : α → D) (l : List α) (k : Nat) : cutD (l.map g) none (some (k : Int)) = (l.take k).map g := by
  unfold cutD
  rw [HT.sIx_none, HT.sIx_nat, List.length_map, List.drop_zero, Nat.sub_zero, ← List.map_take]
  congr 1
  rcases Nat.le_total k l.length with c | c
  · rw [Nat.min_eq_left c]
  · rw [Nat.min_eq_right c, List.take_of_length_le c, List.take_of_length_le (Nat.le_refl _)]
theorem cut_of {α : Type} (g : α → D) (l : List α) (k : Nat) : cutD (l.map g) (some (k : Int)) none = (l.drop k).map g := by
  unfold cutD
  rw [HT.sIx_none, HT.sIx_nat, List.length_map, ← List.map_drop, ← List.map_take]
  congr 1
  rcases Nat.le_total k l.length with c | c
  · rw [Nat.min_eq_left c]
    exact List.take_of_length_le (by rw [List.length_drop]; omega)
  · rw [Nat.min_eq_right c, List.drop_of_length_le c, List.drop_of_length_le (Nat.le_refl _), List.take_nil]
theorem cut_of1 {α : Type} (g : α → D) (l : List α) (k : Nat) : cutD (l.map g) (some ((k : Int) + 1)) none = (l.drop (k + 1)).map g := cut_of g l (k + 1)
theorem ite_and {A B : Prop} {b c : Bool} (h1 : b = true → c = true → A) (h2 : B) : if b = true then (if c = true then A else B) else (if false = true then A else B) := by
  cases b with
  | false => exact itF (itF h2)
  | true =>
    refine itT ?_
    cases c with
    | false => exact itF h2
    | true => exact itT (h1 rfl rfl)
theorem ite_one {A B : Prop} {b : Bool} (h1 : b = true → A) (h2 : B) : if b = true then A else B := ite2D h1 fun _ => h2
end DL

set_option Elab.async false
set_option linter.all false
set_option maxRecDepth 100000
namespace DL
open PySem PySem.Spec PyProof.Rows L2

/-! ### groups by their nodes -/
theorem Conv.same {T : Tr} {d : Str → Str → Int} {r s : List Str} (h : Conv T d r) (m : ∀ x, x ∈ s ↔ x ∈ r) : Conv T d s := fun x hx y hy z hz o => (m z).mpr (h x ((m x).mp hx) y ((m y).mp hy) z hz o)
theorem grp_sort {T : Tr} {d : Str → Str → Int} {r : List Str} (h0 : r ≠ []) (nd : r.Nodup) (sub : ∀ x ∈ r, x ∈ T.names) (c : Conv T d r) : IsGrp T d (sortT r) := by
  have mem : ∀ x, x ∈ sortT r ↔ x ∈ r := fun x => (sortT_perm r).mem_iff
  refine ⟨fun z => ?_, ascT_of (sortT_asc r) ((sortT_perm r).nodup_iff.mpr nd), fun x hx => sub x ((mem x).mp hx), c.same mem⟩
  have l := (sortT_perm r).length_eq
  rw [z] at l
  exact h0 (List.eq_nil_of_length_eq_zero l.symm)
section
variable {T : Tr} {d : Str → Str → Int} (M : Met T d)
include M
theorem Met.conv_path {a b : Str} {r : List Str} (ha : a ∈ T.names) (hb : b ∈ T.names) (h : IsPath T d a b r) : Conv T d r := by
  have go : ∀ x ∈ r, ∀ y ∈ r, d a x ≤ d a y → ∀ z ∈ T.names, On d x y z → z ∈ r := fun x hx y hy le z hz o => by
    obtain ⟨nx, ox⟩ := (h.mem x).mp hx
    obtain ⟨ny, oy⟩ := (h.mem y).mp hy
    have h1 := M.on_near ha hb nx ny ox oy le
    refine (h.mem z).mpr ⟨hz, M.on_trans ha hb ny hz oy ?_⟩
    have t1 := M.tri ha nx hz
    have t2 := M.tri ha hz ny
    unfold On at *
    omega
  intro x hx y hy z hz o
  rcases Int.le_total (d a x) (d a y) with c | c
  · exact go x hx y hy c z hz o
  · exact go y hy x hx c z hz (M.on_symm.mp o)
theorem Met.conv_one {o : Str} (ho : o ∈ T.names) : Conv T d [o] := by
  intro x hx y hy z hz h
  rw [List.mem_singleton] at hx hy
  subst hx hy
  have := M.pos y z
  have := M.symd y z
  have := M.d0 y
  unfold On at h
  rw [M.of0 ho hz (by omega)]
  exact List.mem_cons_self
theorem Met.lw_self {o : Str} (ho : o ∈ T.names) : lw T d o o ≤ 1 := by
  have := len_of_sub (l := T.names.filter fun x => decide (On d o o x)) (m := [o]) (M.nd.filter _) fun x hx => by
    obtain ⟨h1, h2⟩ := mem_onF.mp hx
    exact M.conv_one ho o (by simp) o (by simp) x h1 h2
  exact this
def ballT (T : Tr) (d : Str → Str → Int) (o : Str) (c : Int) : List Str := T.names.filter fun x => decide ((lw T d o x : Int) ≤ c)
omit M in
theorem mem_ball {o x : Str} {c : Int} : x ∈ ballT T d o c ↔ x ∈ T.names ∧ (lw T d o x : Int) ≤ c := by
  unfold ballT
  rw [List.mem_filter, decide_eq_true_iff]
theorem Met.conv_ball {o : Str} {c : Int} (ho : o ∈ T.names) : Conv T d (ballT T d o c) := by
  intro x hx y hy z hz h
  obtain ⟨nx, lx⟩ := mem_ball.mp hx
  obtain ⟨ny, ly⟩ := mem_ball.mp hy
  refine mem_ball.mpr ⟨hz, ?_⟩
  rcases M.on_or ho nx ny hz h with g | g
  · have := M.lw_le ho nx hz g
    omega
  · have := M.lw_le ho ny hz g
    omega
/-- the first two of a path -/
theorem Met.conv_two {a b : Str} {r : List Str} (ha : a ∈ T.names) (h : IsPath T d a b r) (hc : Chn T d a r) (h0 : r[0]? = some a) : r.take 2 ≠ [] ∧ Conv T d (r.take 2) := by
  match r, h0 with
  | [x], h0 =>
    have e : x = a := by simpa using h0
    subst e
    exact ⟨List.cons_ne_nil _ _, M.conv_one ha⟩
  | x :: y :: r, h0 =>
    have e : x = a := by simpa using h0
    subst e
    obtain ⟨l, hl, el⟩ := hc 0 x y rfl rfl
    obtain ⟨ny, _, pl, _⟩ := M.mem hl
    refine ⟨List.cons_ne_nil _ _, ?_⟩
    show Conv T d [x, y]
    have d0 := M.d0 x
    have pair : ∀ z ∈ T.names, On d x y z → z ∈ [x, y] := fun z hz o => by
      have p1 := M.pos x z
      have s1 := M.symd x z
      have s2 := M.symd z y
      unfold On at o
      rcases M.step hz hl with q | q
      · have : d y z = 0 := by omega
        rw [M.of0 ny hz this]
        simp
      · have : d x z = 0 := by omega
        rw [M.of0 ha hz this]
        simp
    have sub1 : ∀ z, z ∈ [x] → z ∈ [x, y] := fun z hz => by
      rw [List.mem_singleton.mp hz]
      exact List.mem_cons_self
    have sub2 : ∀ z, z ∈ [y] → z ∈ [x, y] := fun z hz => by
      rw [List.mem_singleton.mp hz]
      exact List.mem_cons_of_mem _ List.mem_cons_self
    intro u hu v hv z hz o
    rcases List.mem_cons.mp hu with rfl | hu
    · rcases List.mem_cons.mp hv with rfl | hv
      · exact sub1 z (M.conv_one ha v (by simp) v (by simp) z hz o)
      · rw [List.mem_singleton] at hv
        subst hv
        exact pair z hz o
    · rw [List.mem_singleton] at hu
      subst hu
      rcases List.mem_cons.mp hv with rfl | hv
      · exact pair z hz (M.on_symm.mp o)
      · rw [List.mem_singleton] at hv
        subst hv
        exact sub2 z (M.conv_one ny v (by simp) v (by simp) z hz o)
end
/-! ### _law_family -/
def grpD (g : List Str) : D := .tup (g.map .str)
def Fam (T : Tr) (d : Str → Str → Int) (gs : List (List Str)) : Prop := gs.length ≤ 12 ∧ ∀ g ∈ gs, IsGrp T d g
def sp_law_family : SpT := fun ds e q => ∃ T d ns k, ds = [intsD ns, .int k, treeD T] ∧ LTree T d ∧ 0 ≤ k ∧ ∀ gs, Fam T d gs → q (.lst (gs.map grpD))
/-! _law_family: script 0, k 1, tree 2, names 3, head 4, groups 5, j 6, digits 7, one 8, group 9, name 10, weight 11 -/
def N_law_family : List Str := ["script", "k", "tree", "names", "head", "groups", "j", "digits", "one", "group", "name", "weight"]
def t_law_family_1 : ST := (sApp 5 (eCB fTuple (aCons (eCB fSorted (aCons (eVar 9) aNil)) aNil)))
def t_law_family_2 : ST := (sSeq (sIf (bAnd (bCmp fEq (eOp fIx (eVar 7) (eC (.int 3))) (eC (.int 2))) (bCmp fGt (eOp fIx (eVar 4) (eC (.int 1))) (eC (.int 0)))) (sSet 9 (eSl (eVar 9) oNone (oSome (eC (.int 2))))) sNext)
  t_law_family_1)
def t_law_family_3 : ST := (sSeq (sIf (bCmp fEq (eOp fIx (eVar 7) (eC (.int 3))) (eC (.int 1))) (sSet 9 (eLc (itSeq (eVar 3)) [10] (tName 10) (bCmp fLe (eCB fLen (aCons (eCall sp_law_way (aCons (eVar 2) (aCons (eVar 8) (aCons (eVar 10) aNil)))) aNil)) (eOp fAdd (eC (.int 1)) (eOp (fI (fun _ j => 0 < j) (· % ·)) (eOp fIx (eVar 7) (eC (.int 2))) (eC (.int 3))))) (eVar 10))) sNext)
  t_law_family_2)
def t_law_family_4 : ST := (sRet (eVar 5))
def t_law_family : ST := (sSeq (sSet 3 (eLc (itSeq (eOp fIx (eVar 2) (eC (.int 0)))) [10, 11] (tTup (fits 2 (tsCons (tName 10) (tsCons (tName 11) tsNil)))) bYes (eVar 10)))
  (sSeq (sSet 4 (eCall sp_law_draw (aCons (eVar 0) (aCons (eVar 1) (aCons (eLst (iCons (eC (.int 13)) (iCons (eC (.int 4)) aNil))) aNil)))))
  (sSeq (sSet 5 (eLst aNil))
  (sSeq (sFrz 3 (sForget [6, 7, 8, 9] (sFor (itR1 (aCons (eOp fIx (eVar 4) (eC (.int 0))) aNil)) (tName 6) (sSeq (sSet 7 (eSl (eCall sp_law_draw (aCons (eVar 0) (aCons (eOp fAdd (eVar 1) (eC (.int 1))) (aCons (eRep (eLst (iCons (eC (.int 97)) (iCons (eC (.int 97)) (iCons (eC (.int 12)) (iCons (eC (.int 4)) aNil))))) (eC (.int 13))) aNil)))) (oSome (eOp (fI CMul (· * ·)) (eC (.int 4)) (eVar 6))) (oSome (eOp fAdd (eOp (fI CMul (· * ·)) (eC (.int 4)) (eVar 6)) (eC (.int 4))))))
  (sSeq (sSet 8 (eCall sp_law_pick (aCons (eVar 2) (aCons (eOp fIx (eVar 7) (eC (.int 0))) aNil))))
  (sSeq (sSet 9 (eCall sp_law_way (aCons (eVar 2) (aCons (eVar 8) (aCons (eCall sp_law_pick (aCons (eVar 2) (aCons (eOp fIx (eVar 7) (eC (.int 1))) aNil))) aNil)))))
  (sSeq (sIf (bCmp fEq (eOp fIx (eVar 7) (eC (.int 3))) (eC (.int 0))) (sSet 9 (eLst (iCons (eVar 8) aNil))) sNext)
  t_law_family_3)))) [6, 7, 8, 9])))
  t_law_family_4))))
theorem len_law_family : ∀ ds e q, sp_law_family ds e q → ds.length = ["script", "k", "tree"].length := by
  rintro _ e q ⟨T, d, ns, k, rfl, _⟩
  rfl
/-- the group is put at the end -/
theorem fam_1 {E : En} {x0 x1 x2 x3 x4 x6 x7 x8 x9 x10 x11 : Sl} {r : List Str} {gs : List (List Str)} (hx : x9 = .fr (strsD r) ∨ x9 = .ow (strsD r)) (hl : gs.length ≤ 1000)
    (h : E.nx [x0, x1, x2, x3, x4, .ow (.lst ((gs ++ [sortT r]).map grpD)), x6, x7, x8, x9, x10, x11]) : t_law_family_1 E [x0, x1, x2, x3, x4, .ow (.lst (gs.map grpD)), x6, x7, x8, x9, x10, x11] := by
  rw [List.map_append] at h
  have l : (gs.map grpD).length < sizeLine := by
    rw [List.length_map]
    exact lt1000 hl
  have s : SrtbD (r.map D.str) := srtbT r
  rcases hx with rfl | rfl
  · refine ⟨s, l, ?_⟩
    show E.nx [x0, x1, x2, x3, x4, .ow (.lst (gs.map grpD ++ [.tup (sortD (r.map .str))])), x6, x7, x8, .fr (strsD r), x10, x11]
    rw [sortT_map]
    exact h
  · refine ⟨s, l, ?_⟩
    show E.nx [x0, x1, x2, x3, x4, .ow (.lst (gs.map grpD ++ [.tup (sortD (r.map .str))])), x6, x7, x8, .ow (strsD r), x10, x11]
    rw [sortT_map]
    exact h
/-- perhaps the first two alone -/
theorem fam_2 {E : En} {x0 x1 x2 x3 x6 x8 x9 x10 x11 : Sl} {h0 h1 a0 a1 a2 a3 : Int} {r : List Str} {gs : List (List Str)} (hx : x9 = .fr (strsD r) ∨ x9 = .ow (strsD r)) (hl : gs.length ≤ 1000)
    (h : ∀ r' y9, (r' = r ∨ (a3 = 2 ∧ r' = r.take 2)) → E.nx [x0, x1, x2, x3, .fr (intsD [h0, h1]), .ow (.lst ((gs ++ [sortT r']).map grpD)), x6, .ow (intsD [a0, a1, a2, a3]), x8, y9, x10, x11]) :
    t_law_family_2 E [x0, x1, x2, x3, .fr (intsD [h0, h1]), .ow (.lst (gs.map grpD)), x6, .ow (intsD [a0, a1, a2, a3]), x8, x9, x10, x11] := by
  have at3 : atI ([a0, a1, a2, a3].map D.int) 3 = some (.int a3) := atI_nat (j := 3) rfl
  have atH : atI ([h0, h1].map D.int) 1 = some (.int h1) := atI_nat (j := 1) rfl
  refine ⟨.int a3, at3, ?_⟩
  show if decide (a3 = 2) = true then _ else _
  by_cases c : a3 = 2
  · rw [decide_eq_true c]
    refine itT ⟨.int h1, atH, ?_⟩
    show if decide ((0 : Int) < h1) = true then _ else _
    refine ite2D (fun _ => ?_) fun _ => fam_1 hx hl (h r x9 (.inl rfl))
    have e2 : cutD (r.map D.str) none (some 2) = (r.take 2).map D.str := cut_to D.str r 2
    have fin := fam_1 (E := E) (x0 := x0) (x1 := x1) (x2 := x2) (x3 := x3) (x4 := .fr (intsD [h0, h1])) (x6 := x6) (x7 := .ow (intsD [a0, a1, a2, a3])) (x8 := x8) (x10 := x10) (x11 := x11) (x9 := .ow (strsD (r.take 2))) (.inr rfl) hl (h (r.take 2) (.ow (strsD (r.take 2))) (.inr ⟨c, rfl⟩))
    rw [strsD, ← e2] at fin
    rcases hx with rfl | rfl
    · exact fin
    · exact fin
  · rw [decide_eq_false c]
    exact itF (itF (fam_1 hx hl (h r x9 (.inl rfl))))
def szF : List Int := (List.replicate 13 [97, 97, 12, 4]).flatten
theorem szF_at : ∀ j : Fin 13, szF[4 * j.val]? = some 97 ∧ szF[4 * j.val + 1]? = some 97 ∧ szF[4 * j.val + 2]? = some 12 ∧ szF[4 * j.val + 3]? = some 4 := by decide +kernel
theorem take4 {α : Type} {l : List α} {n : Nat} {a b c e : α} (h0 : l[n]? = some a) (h1 : l[n + 1]? = some b) (h2 : l[n + 2]? = some c) (h3 : l[n + 3]? = some e) : (l.drop n).take 4 = [a, b, c, e] := by
  refine List.ext_getElem? fun i => ?_
  rw [List.getElem?_take, List.getElem?_drop]
  match i with
  | 0 => exact h0
  | 1 => exact h1
  | 2 => exact h2
  | 3 => exact h3
  | i + 4 =>
    rw [if_neg (by omega)]
    rfl
theorem cut_mid {α : Type} (g : α → D) (l : List α) {a b : Nat} (ha : a ≤ l.length) (hb : b ≤ l.length) : cutD (l.map g) (some (a : Int)) (some (b : Int)) = ((l.drop a).take (b - a)).map g := by
  unfold cutD
  rw [HT.sIx_nat, HT.sIx_nat, List.length_map, Nat.min_eq_left ha, Nat.min_eq_left hb, ← List.map_drop, ← List.map_take]
theorem bnd2 {dg : List Int} {a b : Int} (h : Bnd dg [a, b]) : ∃ p0 p1, dg = [p0, p1] ∧ (0 ≤ p0 ∧ p0 < a) ∧ (0 ≤ p1 ∧ p1 < b) := by
  match dg, h with
  | [p0, p1], h => exact ⟨p0, p1, rfl, h.1, h.2.1⟩
theorem m_law_family : ∀ ds e q, sp_law_family ds e q → t_law_family { nx := fun _ => q .non, rt := q, xe := fun x _ => e x } (startD N_law_family ds) := by
  rintro _ e q ⟨T, d, ns, k, rfl, L, hk, h⟩
  have M := L.met
  have one := L.len.1
  have n12 : T.names.length ≤ 12 := by
    rw [Tr.names, List.length_map]
    exact L.len.2
  refine ⟨.tup (T.nodes.map nodeD), rfl, ⟨⟨trivial, trivial, trivial⟩, by rw [List.length_map]; exact line1000 (by have := L.len; omega)⟩, ?_⟩
  refine lcR_map nodeD (fun p => .str p.1) (fun p q hq => ⟨rfl, hq .fz (fun z => nomatch z)⟩) T.nodes _ ?_
  rw [show T.nodes.map (fun p => D.str p.1) = T.names.map D.str by rw [Tr.names, List.map_map] <;> rfl]
  refine ⟨(show 2 ≤ sizeLine by decide), ns, k, [13, 4], rfl, hk, by decide, by decide +kernel, fun hd hb => ?_⟩
  obtain ⟨h0, h1, rfl, b0, b1⟩ := bnd2 hb
  refine ⟨Nat.zero_le _, .int h0, atI_nat (j := 0) rfl, ⟨by omega, by omega⟩, ?_⟩
  refine forR_upto (n := h0.toNat) (fun j δ => ∃ gs, δ = [.sh (intsD ns), .sh (.int k), .sh (treeD T), .sh (strsD T.names), .fr (intsD [h0, h1]), .ow (.lst (gs.map grpD)), .un, .un, .un, .un, .un, .un] ∧ gs.length = j ∧ ∀ g ∈ gs, IsGrp T d g) ?_ ?_ _ ⟨[], rfl, rfl, (fun _ z => nomatch z)⟩
  · rintro δ ⟨gs, rfl, hl, hg⟩
    refine ⟨?_, h gs ⟨by omega, hg⟩⟩
    exact immA_map (g := grpD) (fun g => immA_strs g) _
  · rintro j δ nx hj ⟨gs, rfl, hl, hg⟩ hnx
    refine ⟨(show 4 ≤ sizeLine by decide), ⟨by decide, by decide, by decide⟩, ns, k + 1, szF, rfl, by omega, by decide, by decide +kernel, fun dg hb => ?_⟩
    have dl : dg.length = 52 := hb.len.trans (by decide)
    obtain ⟨s0, s1, s2, s3⟩ := szF_at ⟨j, by omega⟩
    obtain ⟨a0, e0, _⟩ := hb.get s0
    obtain ⟨a1, e1, _⟩ := hb.get s1
    obtain ⟨a2, e2, b2⟩ := hb.get s2
    obtain ⟨a3, e3, b3⟩ := hb.get s3
    refine ⟨.inl ⟨by decide, by decide⟩, .inl ⟨by decide, by decide⟩, ?_⟩
    have ec : cutD (dg.map D.int) (some (4 * (j : Int))) (some (4 * (j : Int) + 4)) = [a0, a1, a2, a3].map D.int := by
      have := cut_mid D.int dg (a := 4 * j) (b := 4 * j + 4) (by omega) (by omega)
      rw [show 4 * j + 4 - 4 * j = 4 by omega, take4 e0 e1 e2 e3] at this
      push_cast at this
      exact this
    have at0 : atI ([a0, a1, a2, a3].map D.int) 0 = some (.int a0) := atI_nat (j := 0) rfl
    have at1 : atI ([a0, a1, a2, a3].map D.int) 1 = some (.int a1) := atI_nat (j := 1) rfl
    have at2 : atI ([a0, a1, a2, a3].map D.int) 2 = some (.int a2) := atI_nat (j := 2) rfl
    have at3 : atI ([a0, a1, a2, a3].map D.int) 3 = some (.int a3) := atI_nat (j := 3) rfl
    show slot _ _ 7 .nw (.lst (cutD (dg.map D.int) (some (4 * (j : Int))) (some (4 * (j : Int) + 4))))
    rw [ec]
    refine ⟨.int a0, at0, T, a0, rfl, one, fun u hu _ => ?_⟩
    refine ⟨.int a1, at1, T, a1, rfl, one, fun v hv _ => ⟨T, d, u, v, rfl, M, L.small, hu, hv, fun r hP hc hf hla => ?_⟩⟩
    have cp := M.conv_path hu hv hP
    have r0 : r ≠ [] := fun z => by
      rw [z] at hf
      cases hf
    have next : ∀ (r' : List Str) (y7 y8 y9 : Sl), r' ≠ [] → r'.Nodup → (∀ x ∈ r', x ∈ T.names) → Conv T d r' → nx (forget [6, 7, 8, 9] [.sh (intsD ns), .sh (.int k), .sh (treeD T), .sh (strsD T.names), .fr (intsD [h0, h1]), .ow (.lst ((gs ++ [sortT r']).map grpD)), .sh (.int j), y7, y8, y9, .un, .un]) := fun r' y7 y8 y9 z1 z2 z3 z4 =>
      hnx _ ⟨gs ++ [sortT r'], rfl, by rw [List.length_append, hl] <;> rfl, fun g hgm => by
        rcases List.mem_append.mp hgm with hgm | hgm
        · exact hg g hgm
        · rw [List.mem_singleton.mp hgm]
          exact grp_sort z1 z2 z3 z4⟩
    have rn := M.path_nd hP
    have rsub : ∀ x ∈ r, x ∈ T.names := fun x hx => ((hP.mem x).mp hx).1
    refine ⟨.int a3, at3, ite2D (fun c0 => ?_) fun c0 => ?_⟩
    · -- one alone
      have c0 : a3 = 0 := of_decide_eq_true c0
      refine ⟨(show 1 ≤ sizeLine by decide), .int a3, at3, ite2D (fun c1 => ?_) fun _ => ?_⟩
      · have c1 : a3 = 1 := of_decide_eq_true c1
        omega
      · refine fam_2 (r := [u]) (.inr rfl) (by omega) fun r' y9 hr' => ?_
        rcases hr' with rfl | ⟨c2, _⟩
        · exact next [u] _ _ _ (List.cons_ne_nil _ _) (List.nodup_cons.mpr ⟨List.not_mem_nil, List.nodup_nil⟩) (fun x hx => by rw [List.mem_singleton.mp hx]; exact hu) (M.conv_one hu)
        · omega
    · have c0 : ¬ a3 = 0 := of_decide_eq_false c0
      refine ⟨.int a3, at3, ite2D (fun c1 => ?_) fun _ => ?_⟩
      · -- a ball
        have c1 : a3 = 1 := of_decide_eq_true c1
        refine ⟨⟨⟨trivial, trivial⟩, by rw [List.length_map]; exact line1000 (by omega)⟩, ?_⟩
        refine lcR_flt D.str (fun x => decide ((lw T d u x : Int) ≤ 1 + a2 % 3)) D.str T.names (fun x hx A B g1 g2 => ?_) _ ?_
        · refine ⟨T, d, u, x, rfl, M, L.small, hu, hx, fun s hS _ _ _ => ⟨.int a2, at2, (show (0 : Int) < 3 by decide), ?_⟩⟩
          have es := M.path_lw hS
          show if decide ((((s.map D.str).length : Nat) : Int) ≤ 1 + a2 % 3) = true then _ else _
          rw [List.length_map, es]
          exact ite2D g1 g2
        · refine fam_2 (r := ballT T d u (1 + a2 % 3)) (.inr rfl) (by omega) fun r' y9 hr' => ?_
          rcases hr' with rfl | ⟨c2, _⟩
          · refine next _ _ _ _ (fun z => ?_) (M.nd.filter _) (fun x hx => (mem_ball.mp hx).1) (M.conv_ball hu)
            have := M.lw_self hu
            have := Int.emod_nonneg a2 (show (3 : Int) ≠ 0 by decide)
            have : u ∈ ballT T d u (1 + a2 % 3) := mem_ball.mpr ⟨hu, by omega⟩
            rw [z] at this
            cases this
          · omega
      · -- the way, or its first two
        refine fam_2 (r := r) (.inl rfl) (by omega) fun r' y9 hr' => ?_
        rcases hr' with rfl | ⟨_, rfl⟩
        · exact next _ _ _ _ r0 rn rsub cp
        · obtain ⟨t1, t2⟩ := M.conv_two hu hP hc hf
          exact next _ _ _ _ t1 ((List.take_sublist 2 r).nodup rn) (fun x hx => rsub x (List.mem_of_mem_take hx)) t2
end DL

set_option Elab.async false
set_option linter.all false
set_option maxRecDepth 100000
/-! list(d.values()) -/
namespace DL
open PySem PySem.Spec PyProof.Rows L2
def VwO (d r : Addr) : HO := .ext fun h => h.IsValuesView r d
theorem vwO_ok {P : Program} {w : World} {H : Hp} {h : Heap} {d r : Addr} (x : h.IsValuesView r d) : ObjOk P w H h r (VwO d r) := by
  have ⟨o, e, _⟩ := x
  exact ⟨x, ⟨o, e⟩, fun h1 h2 ⟨o, e, c⟩ k => ⟨o, k o e, c⟩⟩
/-- d.values() -/
def tVals (td : TE) : TE := fun σ H Q => td σ H fun x H1 => ∃ d kvs, x = .ref d ∧ Rd H1 d (.dK kvs) ∧ ∀ r, H1 r = none → Q (.ref r) (upd H1 r (VwO d r))
section
variable {X : Cx} {e : Expr} {td : TE} {apos cpos : Pos}
theorem pe_vals (he : PE X e td) (hbase : attributeBase e "values" X.env (eval e X.env) = eval e X.env := by rfl) (hline : (apos.endLine == cpos.line) = true := by rfl) : PE X (.Call (.Attribute e "values" apos) [] [] cpos) (tVals td) := by
  refine ⟨fun pins s σ H Q I h => ?_⟩
  refine wpAny_Call_method (T := "dict") (id := "dict.values") hbase rfl hline F.plainAttrs_dict F.slot_dict_values F.type_dict_values (thn (he.run pins s σ H _ I h) fun u s1 ⟨x, H1, I1, rx, d, kvs, ex, hd, q⟩ => ?_)
  subst ex
  obtain rfl : u = Value.ref d := rx
  obtain ⟨_, ns, vs, _, dd⟩ := dk_rd I1.hok hd
  refine ⟨dd.typeIs, dd.mapOf.noDict, ?_⟩
  have new : ({ s1 with heap := s1.heap.push { cls := .type "dict_values", data := .fields #[.ref d] } } : Shared).heap.IsValuesView s1.heap.objs.size d := ⟨_, Heap.get?_push_size _ rfl, rfl, rfl⟩
  have J : Inv X pins σ (upd H1 s1.heap.objs.size (VwO d s1.heap.objs.size)) { s1 with heap := s1.heap.push { cls := .type "dict_values", data := .fields #[.ref d] } } :=
    I1.laid (t' := s1.toks) (fun b u z => Heap.get?_push_of_some _ z) (Nat.le_refl _) (vwO_ok new)
  have fin : EP X pins σ Q (.ref s1.heap.objs.size) { s1 with heap := s1.heap.push { cls := .type "dict_values", data := .fields #[.ref d] } } := ⟨.ref _, _, J, rfl, q _ (I1.hok.fresh (Nat.le_refl _))⟩
  show wpAny _ _ (callWith cpos (.builtin "dict.values") [.ref d] [] []) _ X.xe s1
  exact method_meetsIn F.slot_dict_values F.entry_dict_values rfl (PySem.evalArgs_none ⟨rfl, dd.typeIs, F.args_dict_values_1 _, _, meets_dict_values (mixKind X.prog X.w) d ns, ⟨vs, dd⟩, fin⟩)
end
section
variable {X : Cx}
theorem vals_at {kvs : List (Key × V)} {vs : List (Key × Value)} (k : KV kvs vs) : Vals (kvs.map (·.2)) (vs.map (·.2)) := by
  induction k with
  | nil => exact .nil
  | cons h t ih => exact .cons h.2 ih
/-- list(a view of the values) -/
def rListV (X : Cx) : List V → Hp → VK → Prop := fun vs H Q => ∃ r d kvs, vs = [.ref r] ∧ H r = some (VwO d r) ∧ Rd H d (.dK kvs) ∧ ∀ p, H p = none → Q (.ref p) (upd H p (.lst (kvs.map (·.2))))
theorem cr_listV (hc : X.calm = true) : CallR X (.type "list") (rListV X) := by
  rintro pins s σ H xs us Q I rv ⟨r, d, kvs, rfl, hr, hd, q⟩
  rw [Vals.ref1 rv]
  have view : s.heap.IsValuesView r d := (I.hok r _ hr).1
  obtain ⟨small, ns, vs, kv, dd⟩ := dk_rd I.hok hd
  obtain ⟨ep, da⟩ : ∃ ep, s.heap.DictAt (mixKind X.prog X.w) d vs ep := let ⟨o, es, ep, r⟩ := dd; ⟨ep, o, es, r⟩
  have lv : vs.length ≤ sizeLine := by
    rw [← kv.length]
    exact small
  refine PySem.W.kdl_call (PySem.W.kdl_values (knd := mixKind X.prog X.w) (kvs := vs) (ep := ep)) (I.ok.hd hc) ⟨view, da⟩ lv fun h' tk acc c keep at_ items => ?_
  have ea : acc.toList = vs.map (·.2) := PySem.W.kdl_vals_eq _ (by rw [Array.length_toList]; exact items.1) fun j v e => items.2 j v (by rw [← Array.getElem?_toList]; exact e)
  have J : Inv X pins σ (upd H s.heap.objs.size (.lst (kvs.map (·.2)))) { s with heap := h', toks := tk } :=
    I.laid (t' := tk) keep (Nat.le_refl _) ⟨by rw [List.length_map]; exact small, acc.toList, c, by rw [ea]; exact vals_at kv, by rw [Array.toArray_toList]; exact at_⟩
  exact ⟨.ref _, _, J, rfl, q _ (I.hok.fresh (Nat.le_refl _))⟩
end
/-! ### over data: list(d.values()), len(set(list(d.values()))) -/
section
variable {X : Cx} {W : WX} {e : Expr} {ta : ET} {p1 apos cpos pos : Pos}
def eVals (ta : ET) : ET := fun e δ q => ta e δ fun _ x => match x with
  | .dic kds => q .nw (.lst (kds.map (·.2)))
  | _ => False
theorem de_vals (hc : X.calm = true) (hg : Gl X "list") (hm : X.mg "list" = none) (ha : DE X W e ta) (hbase : attributeBase e "values" X.env (eval e X.env) = eval e X.env := by rfl) (hline : (apos.endLine == cpos.line) = true := by rfl)
    (he : starEach [.Call (.Attribute e "values" apos) [] [] cpos] X.env = (false, eval (.Call (.Attribute e "values" apos) [] [] cpos) X.env) :: starEach [] X.env := by rfl) : DE X W (.Call (.Name "list" p1) [.Call (.Attribute e "values" apos) [] [] cpos] [] pos) (eVals ta) :=
  PE.imp (pe_callTy (cr_listV hc) hg hm bt_list (pa_cons (pe_vals ha hbase hline) pa_nil he) (by decide) (by decide) he) fun σ H Q => by
    rintro ⟨B, δ, e, q, r0, h, ok, bad⟩
    refine ⟨B, δ, e, _, r0, h, fun v H1 g x s1 R hq => ?_, bad⟩
    cases x with
    | dic kds =>
      obtain ⟨d, kvs, rfl, rd, rk⟩ := (R.toB r0 : BRep X.K H1 (Frz B H1 δ σ) (.dic kds) v)
      refine ⟨d, kvs, rfl, rd, fun r hr => ⟨r, d, kvs, rfl, upd_same .., ?_, fun p hp => ?_⟩⟩
      · exact Same.rd (same_upd' hr) rd
      · have s2 := s1.trans (same_upd' (o := VwO d r) hr)
        have rr : RepA X.K (Frz B (upd H1 r (VwO d r)) δ σ) none (kds.map (·.2)) (kvs.map (·.2)) := RepA.same (DRel.frz_ext (same_upd' hr)) rk.vals
        have R2 := resLst (r0.ext s2) hp rr
        exact ok _ _ .nw _ (s2.trans (same_upd' hp)) (R2.back s2) hq
    | _ => exact hq.elim
end
end DL

set_option Elab.async false
set_option linter.all false
set_option maxRecDepth 100000
/-! A head with further facts. -/
namespace DL
open PySem PySem.Spec PyProof.Rows L2
abbrev Fx := PySem.W.Frag → Bool
/-- what the names reach in n steps, and the interpreter's own statics (a read of a class looks there) -/
def asX (g : Addr → Option Obj) (n : Nat) : List Addr := He.asD g n ++ [PySem.cStatics]
def obX (n : Nat) (fa : List He.Fa) (fn : List He.DefD) (fx : List Fx) (g : Addr → Option Obj) : He.AlD × Bool := (He.obsD fa fn (He.frG g (asX g n)), fx.all fun f => f (He.frG g (asX g n)))
def hookX (n : Nat) (fa : List He.Fa) (fn : List He.DefD) (fx : List Fx) : PySem.W.Hook where
  α := He.AlD × Bool
  obs := fun s => obX n fa fn fx s.heap.get?
  val := fun _ => (He.valD fn, true)
  says := fun _ h => ∃ K : PySem.W.Frag, K.In h ∧ He.SaysD fa fn K ∧ (fx.all fun f => f K) = true
  of := fun _ _ e => ⟨_, He.frG_in, congrArg Prod.fst e, congrArg Prod.snd e⟩
  keeps := fun _ _ _ ⟨K, hK, c⟩ k => ⟨K, PySem.W.Frag.In.keeps hK k, c⟩
theorem obX_eq {n : Nat} {fa : List He.Fa} {fn : List He.DefD} {fx : List Fx} {g : Addr → Option Obj} {s : Shared} (h : ∀ a, g a = s.heap.get? a) : obX n fa fn fx g = (hookX n fa fn fx).obs s := by
  have e : g = s.heap.get? := funext h
  rw [e]
  rfl
theorem fx_at {fx : List Fx} {K : PySem.W.Frag} (h : (fx.all fun f => f K) = true) (i : Nat) {f : Fx} (e : fx[i]? = some f := by rfl) : f K = true := List.all_eq_true.mp h f (List.mem_of_getElem? e)
/-! ### parts of f'..', one by one -/
def PartsOk (σ : St) : List TE → Prop
  | [] => True
  | t :: ts => PartOk σ t ∧ PartsOk σ ts
theorem PartsOk.all {σ : St} : ∀ {ts : List TE}, PartsOk σ ts → ∀ t ∈ ts, PartOk σ t
  | [], _, t, h => nomatch h
  | u :: ts, p, t, h => by
    rcases List.mem_cons.mp h with rfl | h
    · exact p.1
    · exact PartsOk.all p.2 t h
/-- the statement j of the class at i -/
def clsStmt (c : Stmt) (j : Nat) : Stmt := match c with
  | .ClassDef (body := b) .. => b.getD j (.Pass ⟨0, 0, 0, 0⟩)
  | _ => .Pass ⟨0, 0, 0, 0⟩
end DL

set_option Elab.async false
set_option linter.all false
set_option maxRecDepth 100000
/-! min(xs), max(xs): a list or a tuple of alike data. -/
namespace DL
open PySem PySem.Spec PyProof.Rows L2
open PySem.W (dataLt AlikeAll keyToks keyToksAll)
def ltP (ps : List PyData) : Nat → Nat → Bool := fun i j => dataLt (ps.getD i .none) (ps.getD j .none)
def gtP (ps : List PyData) : Nat → Nat → Bool := fun i j => dataLt (ps.getD j .none) (ps.getD i .none)
def rBest (bt : List PyData → Nat → Nat → Bool) (K : PySem.W.Frag) : List V → Hp → VK → Prop := fun vs H Q => ∃ (a : Addr) (xs : List V) (ps : List PyData), vs = [.ref a] ∧ (SqL K H a xs ∨ SqT K H a xs) ∧ DpAll K H xs ps ∧ (AlikeAll ps ∧ PyData.depthAll ps ≤ 60 ∧ 0 < ps.length) ∧
  ∀ v, xs[argBest (bt ps) (ps.length - 1)]? = some v → Q v H
theorem vals_get' : ∀ {xs : List V} {us : List Value} {i : Nat} {u : Value}, Vals xs us → us[i]? = some u → ∃ x, xs[i]? = some x ∧ RelV x u
  | _, _, i, u, .nil, e => by simp at e
  | x :: xs, w :: us, 0, u, .cons h t, e => by
    have e : w = u := by simpa using e
    subst e
    exact ⟨x, rfl, h⟩
  | x :: xs, w :: us, i + 1, u, .cons h t, e => by
    obtain ⟨y, ey, ry⟩ := vals_get' (i := i) t (by simpa using e)
    exact ⟨y, by simpa using ey, ry⟩
section
variable {X : Cx}
theorem cr_minL (hc : X.calm = true) (hu : X.A.units + 64 < cLine) : CallR X (.builtin "min") (rBest ltP X.K) := by
  rintro pins s σ H vs us Q I r ⟨a, xs, ps, rfl, hs, dp, ⟨al, dep, pos⟩, q⟩
  rw [Vals.ref1 r]
  rcases hs with hs | hs
  · obtain ⟨its, rv, hl, _⟩ := I.list hs
    obtain ⟨as, hr⟩ := Dp.readsAll I ps xs its dp rv
    have hn : its.toArray.size = ps.length := PySem.W.readsAll_len (vs := its.toArray) hr
    refine call_min_walkH (PySem.W.iter_listW (A := X.A.in1) (I.ok.hd hc) hl.isList fun s₂ e W st hfp hw hk => ?_)
    refine ⟨_, _, _, _, _, _, _, s.heap, _, rfl, W, st, hfp, by omega, hw, hk, PySem.W.cmpIn_lt (A := X.A.in1) hr al (by show X.A.units + 1 + _ < _; omega), fun v s' hP m => ?_⟩
    obtain ⟨h', tk, rfl, hk'⟩ := PySem.W.moved_old e rfl m
    rw [hn] at hP
    obtain ⟨x, ex, rx⟩ := vals_get' rv (by simpa using hP)
    exact ⟨x, H, I.kept hk', rx, q x ex⟩
  · obtain ⟨its, rv, hl, _⟩ := I.tuple hs
    obtain ⟨as, hr⟩ := Dp.readsAll I ps xs its dp rv
    have hn : its.toArray.size = ps.length := PySem.W.readsAll_len (vs := its.toArray) hr
    refine call_min_walkH (PySem.W.iter_tupleW (A := X.A.in1) (I.ok.hd hc) hl fun s₂ e W st hfp hw hk => ?_)
    refine ⟨_, _, _, _, _, _, _, s.heap, _, rfl, W, st, hfp, by omega, hw, hk, PySem.W.cmpIn_lt (A := X.A.in1) hr al (by show X.A.units + 1 + _ < _; omega), fun v s' hP m => ?_⟩
    obtain ⟨h', tk, rfl, hk'⟩ := PySem.W.moved_old e rfl m
    rw [hn] at hP
    obtain ⟨x, ex, rx⟩ := vals_get' rv (by simpa using hP)
    exact ⟨x, H, I.kept hk', rx, q x ex⟩
theorem cr_maxL (hc : X.calm = true) (hu : X.A.units + 64 < cLine) : CallR X (.builtin "max") (rBest gtP X.K) := by
  rintro pins s σ H vs us Q I r ⟨a, xs, ps, rfl, hs, dp, ⟨al, dep, pos⟩, q⟩
  rw [Vals.ref1 r]
  rcases hs with hs | hs
  · obtain ⟨its, rv, hl, _⟩ := I.list hs
    obtain ⟨as, hr⟩ := Dp.readsAll I ps xs its dp rv
    have hn : its.toArray.size = ps.length := PySem.W.readsAll_len (vs := its.toArray) hr
    refine call_max_walkH (PySem.W.iter_listW (A := X.A.in1) (I.ok.hd hc) hl.isList fun s₂ e W st hfp hw hk => ?_)
    refine ⟨_, _, _, _, _, _, _, s.heap, _, rfl, W, st, hfp, by omega, hw, hk, PySem.W.cmpIn_gt (A := X.A.in1) hr al (by show X.A.units + 1 + _ < _; omega), fun v s' hP m => ?_⟩
    obtain ⟨h', tk, rfl, hk'⟩ := PySem.W.moved_old e rfl m
    rw [hn] at hP
    obtain ⟨x, ex, rx⟩ := vals_get' rv (by simpa using hP)
    exact ⟨x, H, I.kept hk', rx, q x ex⟩
  · obtain ⟨its, rv, hl, _⟩ := I.tuple hs
    obtain ⟨as, hr⟩ := Dp.readsAll I ps xs its dp rv
    have hn : its.toArray.size = ps.length := PySem.W.readsAll_len (vs := its.toArray) hr
    refine call_max_walkH (PySem.W.iter_tupleW (A := X.A.in1) (I.ok.hd hc) hl fun s₂ e W st hfp hw hk => ?_)
    refine ⟨_, _, _, _, _, _, _, s.heap, _, rfl, W, st, hfp, by omega, hw, hk, PySem.W.cmpIn_gt (A := X.A.in1) hr al (by show X.A.units + 1 + _ < _; omega), fun v s' hP m => ?_⟩
    obtain ⟨h', tk, rfl, hk'⟩ := PySem.W.moved_old e rfl m
    rw [hn] at hP
    obtain ⟨x, ex, rx⟩ := vals_get' rv (by simpa using hP)
    exact ⟨x, H, I.kept hk', rx, q x ex⟩
end
/-! ### over data -/
theorem pyA_len : ∀ ds : List D, (pyA ds).length = ds.length
  | [] => rfl
  | d :: ds => congrArg (· + 1) (pyA_len ds)
theorem pyA_getD : ∀ (ds : List D) (i : Nat) (d : D), ds[i]? = some d → (pyA ds).getD i .none = d.py
  | [], i, d, e => by simp at e
  | x :: ds, 0, d, e => by
    have e : x = d := by simpa using e
    rw [e] <;> rfl
  | x :: ds, i + 1, d, e => by
    show (x.py :: pyA ds).getD (i + 1) .none = d.py
    have := pyA_getD ds i d (by simpa using e)
    simpa using this
def bestD (bt : List PyData → Nat → Nat → Bool) (ds : List D) : Option D := ds[argBest (bt (pyA ds)) (ds.length - 1)]?
def BestOk (ds : List D) : Prop := (AlikeAll (pyA ds) ∧ PyData.canLayAll0 (pyA ds) = true) ∧ PyData.depthAll (pyA ds) ≤ 60 ∧ 0 < ds.length
def fBest (bt : List PyData → Nat → Nat → Bool) : F1 := fun ds q => match ds with
  | [.lst ds] => BestOk ds ∧ ∀ d, bestD bt ds = some d → q .fz d
  | [.tup ds] => BestOk ds ∧ ∀ d, bestD bt ds = some d → q .fz d
  | _ => False
section
variable {X : Cx}
theorem snd_best (bt : List PyData → Nat → Nat → Bool) : SndC X.K (rBest bt X.K) (fBest bt) := by
  intro B H δ σ vs ds q Q r h hf ok
  have go : ∀ (ds : List D) (ws : List V) (p : Addr), (SqL X.K H p ws ∨ SqT X.K H p ws) → RepA X.K (Frz B H δ σ) none ds ws → BestOk ds → (∀ d, bestD bt ds = some d → q .fz d) → rBest bt X.K [.ref p] H Q := fun ds ws p hs z2 hb hq => by
    have full : RepA X.K H none ds ws := RepA.same (cut_le _ _) z2
    refine ⟨p, ws, pyA ds, rfl, hs, RepA.dp ds ws hb.1.2 full, ⟨hb.1.1, hb.2.1, by rw [pyA_len]; exact hb.2.2⟩, fun v hv => ?_⟩
    rw [pyA_len] at hv
    obtain ⟨d, ed, rd⟩ := z2.get' hv
    exact ok v H .fz d (Same.refl H) rd (hq d ed)
  unfold fBest at hf
  split at hf
  · obtain ⟨v, rfl, p, ws, rfl, z, z2⟩ := h.one
    exact go _ ws p (.inl z) z2 hf.1 hf.2
  · obtain ⟨v, rfl, p, ws, rfl, z, z2⟩ := h.one
    exact go _ ws p (.inr ((Same.tp (cut_le _ _) z).sq)) z2 hf.1 hf.2
  · exact hf.elim
end
/-! ### the best one -/
theorem argBest_ok {bt : Nat → Nat → Bool} (ir : ∀ i, bt i i = false) (tr : ∀ i j k, bt i j = true → bt j k = true → bt i k = true) : ∀ k, argBest bt k ≤ k ∧ ∀ j, j ≤ k → bt j (argBest bt k) = false
  | 0 => ⟨Nat.le_refl _, fun j hj => by
    have : j = 0 := by omega
    rw [this]
    exact ir 0⟩
  | k + 1 => by
    obtain ⟨h1, h2⟩ := argBest_ok ir tr k
    unfold argBest
    split
    · rename_i c
      refine ⟨Nat.le_refl _, fun j hj => ?_⟩
      rcases Nat.lt_or_ge k j with z | z
      · have : j = k + 1 := by omega
        rw [this]
        exact ir _
      · cases e : bt j (k + 1) with
        | false => rfl
        | true =>
          have := tr _ _ _ e c
          rw [h2 j z] at this
          cases this
    · rename_i c
      refine ⟨by omega, fun j hj => ?_⟩
      rcases Nat.lt_or_ge k j with z | z
      · have : j = k + 1 := by omega
        rw [this]
        simpa using c
      · exact h2 j z
def ltD (d e : D) : Bool := dataLt d.py e.py
theorem dataLt_irrefl (x : PyData) : dataLt x x = false := PyProof.Rows.lex_irrefl (O := itemOrd) _
theorem dataLt_trans (x y z : PyData) (h : dataLt x y = true) (g : dataLt y z = true) : dataLt x z = true := PyProof.Rows.lex_trans (O := itemOrd) _ _ _ h g
theorem bestD_mem {bt : List PyData → Nat → Nat → Bool} {ds : List D} {d : D} (h : bestD bt ds = some d) : d ∈ ds := List.mem_of_getElem? h
/-- min: no other is less; max: no other is greater -/
theorem min_best {ds : List D} {d : D} (h : bestD ltP ds = some d) : ∀ e ∈ ds, ltD e d = false := fun e he => by
  have a := argBest_ok (bt := ltP (pyA ds)) (fun i => dataLt_irrefl _) (fun i j k => dataLt_trans _ _ _) (ds.length - 1)
  obtain ⟨j, hj, ej⟩ := List.getElem_of_mem he
  have : dataLt ((pyA ds).getD j .none) ((pyA ds).getD (argBest (ltP (pyA ds)) (ds.length - 1)) .none) = false := a.2 j (by omega)
  rw [pyA_getD ds j e (by rw [List.getElem?_eq_getElem hj, ej]), pyA_getD ds _ d h] at this
  exact this
theorem max_best {ds : List D} {d : D} (h : bestD gtP ds = some d) : ∀ e ∈ ds, ltD d e = false := fun e he => by
  have a := argBest_ok (bt := gtP (pyA ds)) (fun i => dataLt_irrefl _) (fun i j k h g => dataLt_trans _ _ _ g h) (ds.length - 1)
  obtain ⟨j, hj, ej⟩ := List.getElem_of_mem he
  have : dataLt ((pyA ds).getD (argBest (gtP (pyA ds)) (ds.length - 1)) .none) ((pyA ds).getD j .none) = false := a.2 j (by omega)
  rw [pyA_getD ds j e (by rw [List.getElem?_eq_getElem hj, ej]), pyA_getD ds _ d h] at this
  exact this
theorem bestD_some {bt : List PyData → Nat → Nat → Bool} (ir : ∀ ps i, bt ps i i = false) (tr : ∀ ps i j k, bt ps i j = true → bt ps j k = true → bt ps i k = true) {ds : List D} (h : 0 < ds.length) : ∃ d, bestD bt ds = some d := by
  have a := (argBest_ok (bt := bt (pyA ds)) (ir _) (tr _) (ds.length - 1)).1
  exact ⟨ds[argBest (bt (pyA ds)) (ds.length - 1)]'(by omega), List.getElem?_eq_getElem (by omega)⟩
/-- the order of flat ones, and of tuples of them, is sorted's -/
theorem toks_flat {d : D} (h : d.flat = true) : keyToks d.py = [skD d] := by
  cases d with
  | int i => rfl
  | str s => rfl
  | _ => cases h
theorem itemLt_ltS : ∀ a b : SK, itemOrd.blt a b = ltS a b
  | .inl _, .inl _ => rfl
  | .inl _, .inr _ => rfl
  | .inr _, .inl _ => rfl
  | .inr _, .inr _ => rfl
theorem lt_flats : ∀ {ds es : List D}, ds.all D.flat = true → es.all D.flat = true → ds.length = es.length → PyProof.Rows.lexLt itemOrd (keyToksAll (pyA ds)) (keyToksAll (pyA es)) = lexS (ds.map skD) (es.map skD)
  | [], [], _, _, _ => by
    show PyProof.Rows.lexLt itemOrd [.inl 0] [.inl 0] = false
    exact PyProof.Rows.lex_irrefl (O := itemOrd) _
  | [], _ :: _, _, _, h => nomatch h
  | _ :: _, [], _, _, h => nomatch h
  | d :: ds, e :: es, hd, he, hl => by
    rw [List.all_cons, Bool.and_eq_true] at hd he
    show PyProof.Rows.lexLt itemOrd (.inl 1 :: (keyToks d.py ++ keyToksAll (pyA ds))) (.inl 1 :: (keyToks e.py ++ keyToksAll (pyA es))) = lexS (skD d :: ds.map skD) (skD e :: es.map skD)
    rw [PyProof.Rows.lex_self (O := itemOrd), toks_flat hd.1, toks_flat he.1, List.singleton_append, List.singleton_append, lexS]
    by_cases c : skD d = skD e
    · rw [if_pos c, c, PyProof.Rows.lex_self (O := itemOrd)]
      exact lt_flats hd.2 he.2 (Nat.succ.inj hl)
    · rw [if_neg c, PyProof.Rows.lex_diff (O := itemOrd) c]
      exact itemLt_ltS _ _
theorem ltD_tup {ds es : List D} (hd : ds.all D.flat = true) (he : es.all D.flat = true) (hl : ds.length = es.length) : ltD (.tup ds) (.tup es) = lexS (keyL (.tup ds)) (keyL (.tup es)) := lt_flats hd he hl
theorem ltD_int (i j : Int) : ltD (.int i) (.int j) = decide (i < j) := by
  show PyProof.Rows.lexLt itemOrd [.inl i] [.inl j] = _
  rw [PyProof.Rows.lex_cons]
  show (decide (i < j) || (!decide (j < i) && false)) = _
  rw [Bool.and_false, Bool.or_false]
theorem ltD_str (x y : Str) : ltD (.str x) (.str y) = decide (x.cps.toList < y.cps.toList) := by
  show PyProof.Rows.lexLt itemOrd [.inr x.cps.toList] [.inr y.cps.toList] = _
  rw [PyProof.Rows.lex_cons]
  show (decide (x.cps.toList < y.cps.toList) || (!decide (y.cps.toList < x.cps.toList) && false)) = _
  rw [Bool.and_false, Bool.or_false]
/-! ### what may be passed -/
theorem alike_shp : ∀ {ds es : List D}, ds.all D.flat = true → es.all D.flat = true → ds.map (fun x => kdS (skD x)) = es.map (fun x => kdS (skD x)) → PySem.W.alikeAll (pyA ds) (pyA es) = true
  | [], es, _, _, _ => by cases es <;> rfl
  | d :: ds, [], _, _, h => nomatch h
  | d :: ds, e :: es, hd, he, hk => by
    rw [List.all_cons, Bool.and_eq_true] at hd he
    rw [List.map_cons, List.map_cons] at hk
    obtain ⟨k1, k2⟩ := List.cons.inj hk
    show (PySem.W.alike d.py e.py && PySem.W.alikeAll (pyA ds) (pyA es)) = true
    rw [alike_shp hd.2 he.2 k2, Bool.and_true]
    cases d with
    | int i =>
      cases e with
      | int j => rfl
      | str j => cases k1
      | _ => cases he.1
    | str i =>
      cases e with
      | str j => rfl
      | int j => cases k1
      | _ => cases he.1
    | _ => cases hd.1
theorem mem_pyA {p : PyData} : ∀ {ds : List D}, p ∈ pyA ds → ∃ d ∈ ds, p = d.py
  | [], h => by cases h
  | d :: ds, h => by
    rcases List.mem_cons.mp h with rfl | h
    · exact ⟨d, by simp, rfl⟩
    · obtain ⟨e, he, ee⟩ := mem_pyA h
      exact ⟨e, List.mem_cons_of_mem _ he, ee⟩
end DL

set_option Elab.async false
set_option linter.all false
set_option maxRecDepth 100000
namespace DL
open PySem PySem.Spec PyProof.Rows L2

/-! ### min, max of ints; of texts; of tuples of ints and texts -/
theorem bestOk_of {ds : List D} (h0 : ds ≠ []) (ok : ∀ d ∈ ds, d.ok = true ∧ d.dep ≤ 50) (al : ∀ d ∈ ds, ∀ e ∈ ds, PySem.W.alike d.py e.py = true) (nn : ∀ d ∈ ds, d ≠ .non) : BestOk ds := by
  have oks : okA ds = true := by
    have := okA_map (g := fun d : D => d) (l := ds) fun d hd => (ok d hd).1
    rw [List.map_id'] at this
    exact this
  have deps : depA ds ≤ 50 := by
    have := depA_map (g := fun d : D => d) (l := ds) (n := 50) fun d hd => (ok d hd).2
    rw [List.map_id'] at this
    exact this
  obtain ⟨l1, l2⟩ := ok_layA ds oks
  refine ⟨⟨⟨fun x hx y hy => ?_, fun x hx e => ?_⟩, l1⟩, by omega, List.length_pos_iff.mpr h0⟩
  · obtain ⟨d, hd, rfl⟩ := mem_pyA hx
    obtain ⟨e, he, rfl⟩ := mem_pyA hy
    exact al d hd e he
  · obtain ⟨d, hd, rfl⟩ := mem_pyA hx
    cases d with
    | non => exact nn _ hd rfl
    | _ => cases e
theorem bestOk_ints {l : List Int} (h : l ≠ []) : BestOk (l.map .int) := by
  refine bestOk_of (fun z => h (List.map_eq_nil_iff.mp z)) (fun d hd => ?_) (fun d hd e he => ?_) fun d hd => ?_
  · obtain ⟨i, _, rfl⟩ := List.mem_map.mp hd
    exact ⟨rfl, Nat.zero_le _⟩
  · obtain ⟨i, _, rfl⟩ := List.mem_map.mp hd
    obtain ⟨j, _, rfl⟩ := List.mem_map.mp he
    rfl
  · obtain ⟨i, _, rfl⟩ := List.mem_map.mp hd
    exact fun z => nomatch z
theorem bestOk_strs {l : List Str} (h : l ≠ []) (so : StrsOk l) : BestOk (l.map .str) := by
  refine bestOk_of (fun z => h (List.map_eq_nil_iff.mp z)) (fun d hd => ?_) (fun d hd e he => ?_) fun d hd => ?_
  · obtain ⟨i, hi, rfl⟩ := List.mem_map.mp hd
    exact ⟨so i hi, Nat.zero_le _⟩
  · obtain ⟨i, _, rfl⟩ := List.mem_map.mp hd
    obtain ⟨j, _, rfl⟩ := List.mem_map.mp he
    rfl
  · obtain ⟨i, _, rfl⟩ := List.mem_map.mp hd
    exact fun z => nomatch z
theorem okA_mem : ∀ {ds : List D}, (∀ d ∈ ds, d.ok = true) → okA ds = true := fun {ds} h => by
  have := okA_map (g := fun d : D => d) (l := ds) h
  rw [List.map_id'] at this
  exact this
theorem flat_dep {d : D} (h : d.flat = true) : d.dep = 0 := by
  cases d with
  | int i => rfl
  | str s => rfl
  | _ => cases h
/-- tuples of one shape -/
theorem bestOk_tups {ts : List (List D)} {sh : List Bool} (h0 : ts ≠ []) (h : ∀ ds ∈ ts, ds.all D.flat = true ∧ ds.map (fun x => kdS (skD x)) = sh ∧ ∀ d ∈ ds, d.ok = true) : BestOk (ts.map .tup) := by
  refine bestOk_of (fun z => h0 (List.map_eq_nil_iff.mp z)) (fun d hd => ?_) (fun d hd e he => ?_) fun d hd => ?_
  · obtain ⟨ds, hds, rfl⟩ := List.mem_map.mp hd
    obtain ⟨h1, h2, h3⟩ := h ds hds
    refine ⟨okA_mem h3, ?_⟩
    have : depA ds ≤ 0 := by
      have := depA_map (g := fun d : D => d) (l := ds) (n := 0) fun d hd => by
        rw [flat_dep (List.all_eq_true.mp h1 d hd)]
        exact Nat.le_refl _
      rw [List.map_id'] at this
      exact this
    show depA ds + 1 ≤ 50
    omega
  · obtain ⟨ds, hds, rfl⟩ := List.mem_map.mp hd
    obtain ⟨es, hes, rfl⟩ := List.mem_map.mp he
    obtain ⟨h1, h2, _⟩ := h ds hds
    obtain ⟨g1, g2, _⟩ := h es hes
    exact alike_shp h1 g1 (h2.trans g2.symm)
  · obtain ⟨i, _, rfl⟩ := List.mem_map.mp hd
    exact fun z => nomatch z
/-- the least of ints -/
theorem best_int {l : List Int} {d : D} (h : bestD ltP (l.map .int) = some d) : ∃ m, d = .int m ∧ m ∈ l ∧ ∀ i ∈ l, m ≤ i := by
  obtain ⟨m, hm, rfl⟩ := List.mem_map.mp (bestD_mem h)
  refine ⟨m, rfl, hm, fun i hi => ?_⟩
  have := min_best h (.int i) (List.mem_map.mpr ⟨i, hi, rfl⟩)
  rw [ltD_int] at this
  have := of_decide_eq_false this
  omega
/-- the greatest of ints -/
theorem best_intX {l : List Int} {d : D} (h : bestD gtP (l.map .int) = some d) : ∃ m, d = .int m ∧ m ∈ l ∧ ∀ i ∈ l, i ≤ m := by
  obtain ⟨m, hm, rfl⟩ := List.mem_map.mp (bestD_mem h)
  refine ⟨m, rfl, hm, fun i hi => ?_⟩
  have := max_best h (.int i) (List.mem_map.mpr ⟨i, hi, rfl⟩)
  rw [ltD_int] at this
  have := of_decide_eq_false this
  omega
end DL

set_option Elab.async false
set_option linter.all false
set_option maxRecDepth 100000
/-! abs(i); x is None, x is not None. -/
namespace DL
open PySem PySem.Spec PyProof.Rows L2
theorem bt_abs : bootBuiltins "abs" = some (.builtin "abs") := by decide +kernel
def fAbs : F1 := fun ds q => match ds with
  | [.int i] => q .fz (.int (if i < 0 then -i else i))
  | _ => False
def D.isNon : D → Bool
  | .non => true
  | _ => false
def fIsN (neg : Bool) : F2b := fun x y q => match y with
  | .non => q (if neg = true then !x.isNon else x.isNon)
  | .bl b => match x with
    | .bl a => q (if neg = true then !decide (a = b) else decide (a = b))
    | _ => False
  | _ => False
section
variable {X : Cx}
theorem snd_abs : SndC X.K (fun xs H Q => ∃ i, xs = [.int i] ∧ Q (.int (if i < 0 then -i else i)) H) fAbs := by
  intro B H δ σ vs ds q Q r h hf ok
  unfold fAbs at hf
  split at hf
  · exact ⟨_, h.ints1, ok _ _ _ _ (Same.refl H) (SRep.res (d := .int _) rfl) hf⟩
  · exact hf.elim
theorem brep_non {K : PySem.W.Frag} {H Z : Hp} {d : D} {v : V} (h : BRep K H Z d v) : decide (v = .non) = d.isNon := by
  cases d with
  | non =>
    cases (show v = .non from h)
    rfl
  | bl b =>
    cases (show v = .bl b from h)
    rfl
  | int i =>
    cases (show v = .int i from h)
    rfl
  | str i =>
    cases (show v = .str i from h)
    rfl
  | lst ds =>
    obtain ⟨a, vs, rfl, _⟩ := h
    rfl
  | tup ds =>
    obtain ⟨a, vs, rfl, _⟩ := h
    rfl
  | ktp ds =>
    obtain ⟨a, rfl, _⟩ := h
    rfl
  | dtp ds =>
    obtain ⟨a, rfl, _⟩ := h
    rfl
  | dic ds =>
    obtain ⟨a, vs, rfl, _⟩ := h
    rfl
theorem snd_isN : Snd2b X.K (fun x y H Q => (y = .non ∧ Q (.bl (decide (x = .non))) H) ∨ ∃ a b, x = .bl a ∧ y = .bl b ∧ Q (.bl (decide (a = b))) H) (fIsN false) := by
  intro H Z x y d e q Q s hx hy h ok
  unfold fIsN at h
  split at h
  · cases (show y = .non from hy)
    refine .inl ⟨rfl, ?_⟩
    rw [brep_non hx]
    exact ok _ h
  · rename_i b
    split at h
    · exact .inr ⟨_, _, hx, hy, ok _ h⟩
    · exact h.elim
  · exact h.elim
theorem snd_notN : Snd2b X.K (fun x y H Q => (y = .non ∧ Q (.bl (!decide (x = .non))) H) ∨ ∃ a b, x = .bl a ∧ y = .bl b ∧ Q (.bl (!decide (a = b))) H) (fIsN true) := by
  intro H Z x y d e q Q s hx hy h ok
  unfold fIsN at h
  split at h
  · cases (show y = .non from hy)
    refine .inl ⟨rfl, ?_⟩
    rw [brep_non hx]
    exact ok _ h
  · rename_i b
    split at h
    · exact .inr ⟨_, _, hx, hy, ok _ h⟩
    · exact h.elim
  · exact h.elim
theorem op_isNB : OpR X (compareOp .Is) (fun x y H Q => (y = .non ∧ Q (.bl (decide (x = .non))) H) ∨ ∃ a b, x = .bl a ∧ y = .bl b ∧ Q (.bl (decide (a = b))) H) := op_isN.or op_is_bl
theorem op_notNB : OpR X (compareOp .IsNot) (fun x y H Q => (y = .non ∧ Q (.bl (!decide (x = .non))) H) ∨ ∃ a b, x = .bl a ∧ y = .bl b ∧ Q (.bl (!decide (a = b))) H) := op_notN.or op_isnot_bl
end
/-! ### x or y, x and y of any values -/
def eOrT (t u : ET) : ET := fun e δ q => t e δ fun g x => truD x fun k => if k = true then q g x else u e δ q
def eAndT (t u : ET) : ET := fun e δ q => t e δ fun g x => truD x fun k => if k = true then u e δ q else q g x
section
variable {X : Cx} {W : WX} {a b : Expr} {rest : List Expr} {pos : Pos} {ta tb : ET}
theorem truD_tru {K : PySem.W.Frag} {B : Bs} {H H1 : Hp} {δ : DSt} {σ : St} {g : Tg} {d : D} {v : V} {P : Bool → Prop} (r0 : DRel K B H δ σ) (R : Res K B H H1 δ σ g d v) (h : truD d P) : ∃ k, TruV K v H1 k ∧ P k := by
  have hb := R.toB r0
  have emp : ∀ {α β : Type} {l : List α} {m : List β}, l.length = m.length → (!l.isEmpty) = !m.isEmpty := fun {_ _ l m} z => by cases l <;> cases m <;> simp_all
  cases d with
  | non =>
    cases hb
    exact ⟨_, rfl, h⟩
  | bl k =>
    cases hb
    exact ⟨_, rfl, h⟩
  | int k =>
    cases hb
    exact ⟨_, rfl, h⟩
  | str k =>
    cases hb
    exact ⟨_, ⟨h.1, rfl⟩, h.2⟩
  | lst ds =>
    obtain ⟨p, vs, rfl, z1, z2⟩ := hb
    exact ⟨_, .inl ⟨vs, z1, (emp z2.len).symm⟩, h⟩
  | tup ds =>
    obtain ⟨p, vs, rfl, z1, z2⟩ := hb
    exact ⟨_, .inr (.inl ⟨vs, (tp_cut z1).sq, (emp z2.len).symm⟩), h⟩
  | ktp ks =>
    obtain ⟨p, rfl, z1⟩ := hb
    exact ⟨_, .inr (.inl ⟨_, .inl (.inl (cut_some.mp z1).2), (emp (by rw [List.length_map])).symm⟩), h⟩
  | dtp ds => exact h.elim
  | dic ds => exact h.elim
theorem de_orT (ha : DE X W a ta) (hb : DE X W (.BoolOp .Or (b :: rest) pos) tb) : DE X W (.BoolOp .Or (a :: b :: rest) pos) (eOrT ta tb) := PE.imp (pe_orT ha hb) fun σ H Q ⟨B, δ, e, q, r0, h, ok, bad⟩ => by
  refine ⟨B, δ, e, _, r0, h, fun v1 H1 g1 d1 s1 R1 h1 => ?_, bad⟩
  obtain ⟨k, tk, h2⟩ := truD_tru r0 R1 h1
  refine ⟨k, tk, ?_⟩
  cases k with
  | true => exact itT (ok _ _ _ _ s1 R1 (by rw [if_pos rfl] at h2; exact h2))
  | false => exact itF ⟨B, δ, e, _, r0.ext s1, (by rw [if_neg Bool.false_ne_true] at h2; exact h2), fun v2 H2 g2 d2 s2 R2 h2 => ok _ _ _ _ (s1.trans s2) (R2.back s1) h2, fun cls dx H' x s => bad cls dx H' x (s1.trans s)⟩
theorem de_andT (ha : DE X W a ta) (hb : DE X W (.BoolOp .And (b :: rest) pos) tb) : DE X W (.BoolOp .And (a :: b :: rest) pos) (eAndT ta tb) := PE.imp (pe_andT ha hb) fun σ H Q ⟨B, δ, e, q, r0, h, ok, bad⟩ => by
  refine ⟨B, δ, e, _, r0, h, fun v1 H1 g1 d1 s1 R1 h1 => ?_, bad⟩
  obtain ⟨k, tk, h2⟩ := truD_tru r0 R1 h1
  refine ⟨k, tk, ?_⟩
  cases k with
  | false => exact itF (ok _ _ _ _ s1 R1 (by rw [if_neg Bool.false_ne_true] at h2; exact h2))
  | true => exact itT ⟨B, δ, e, _, r0.ext s1, (by rw [if_pos rfl] at h2; exact h2), fun v2 H2 g2 d2 s2 R2 h2 => ok _ _ _ _ (s1.trans s2) (R2.back s1) h2, fun cls dx H' x s => bad cls dx H' x (s1.trans s)⟩
end
end DL

set_option Elab.async false
set_option linter.all false
set_option maxRecDepth 100000
namespace DL
open PySem PySem.Spec PyProof.Rows L2

/-! ### the told hit of a family -/
open Classical in
noncomputable def topC (T : Tr) (d : Str → Str → Int) (o : Str) (g : List Str) : Str := if h : ∃ t, IsTop T d o g t then Classical.choose h else ""
theorem topC_ok {T : Tr} {d : Str → Str → Int} {o t : Str} {g : List Str} (h : IsTop T d o g t) : IsTop T d o g (topC T d o g) := by
  have e : ∃ t, IsTop T d o g t := ⟨t, h⟩
  unfold topC
  rw [dif_pos e]
  exact Classical.choose_spec e
theorem top_some {T : Tr} {d : Str → Str → Int} {o : Str} : ∀ {g : List Str}, g ≠ [] → ∃ t, IsTop T d o g t
  | [], h => absurd rfl h
  | [y], _ => ⟨y, by simp, fun x hx => by rw [List.mem_singleton.mp hx]; exact Nat.le_refl _⟩
  | y :: z :: g, _ => by
    obtain ⟨t, t1, t2⟩ := top_some (T := T) (d := d) (o := o) (g := z :: g) (List.cons_ne_nil _ _)
    rcases Nat.le_total (lw T d o t) (lw T d o y) with c | c
    · refine ⟨t, List.mem_cons_of_mem _ t1, fun x hx => ?_⟩
      rcases List.mem_cons.mp hx with rfl | hx
      · exact c
      · exact t2 x hx
    · refine ⟨y, by simp, fun x hx => ?_⟩
      rcases List.mem_cons.mp hx with rfl | hx
      · exact Nat.le_refl _
      · exact Nat.le_trans c (t2 x hx)
def grpAt (gs : List (List Str)) (k : Nat) : List Str := (gs[k]?).getD []
noncomputable def topAt (T : Tr) (d : Str → Str → Int) (o : Str) (gs : List (List Str)) (k : Nat) : Str := topC T d o (grpAt gs k)
noncomputable def rowAt (T : Tr) (d : Str → Str → Int) (o : Str) (gs : List (List Str)) (k : Nat) : D := .tup [.int (0 - (lw T d o (topAt T d o gs k) : Int)), .str (topAt T d o gs k), .int (k : Int)]
noncomputable def ordG (T : Tr) (d : Str → Str → Int) (o : Str) (gs : List (List Str)) : List Nat := (List.range gs.length).mergeSort fun i j => leD (rowAt T d o gs i) (rowAt T d o gs j)
theorem ordG_map (T : Tr) (d : Str → Str → Int) (o : Str) (gs : List (List Str)) : sortD ((List.range gs.length).map (rowAt T d o gs)) = (ordG T d o gs).map (rowAt T d o gs) :=
  (List.map_mergeSort (f := rowAt T d o gs) (s := leD) (r := fun i j => leD (rowAt T d o gs i) (rowAt T d o gs j)) fun _ _ _ _ => rfl).symm
theorem ordG_perm (T : Tr) (d : Str → Str → Int) (o : Str) (gs : List (List Str)) : (ordG T d o gs).Perm (List.range gs.length) := List.mergeSort_perm _ _
noncomputable def toldH (T : Tr) (d : Str → Str → Int) (o : Str) (gs : List (List Str)) : List Str × List Nat := takes (topAt T d o gs) (grpAt gs) (ordG T d o gs) [] []
def natsD (r : List Nat) : List D := r.map fun (k : Nat) => D.int (k : Int)
noncomputable def toldD (T : Tr) (d : Str → Str → Int) (o : Str) (gs : List (List Str)) : D := .tup [.lst (sortD ((toldH T d o gs).1.map .str)), .lst (sortD (natsD (toldH T d o gs).2))]
/-- the deeper one first -/
theorem ordG_deep (T : Tr) (d : Str → Str → Int) (o : Str) (gs : List (List Str)) : (ordG T d o gs).Pairwise fun i j => lw T d o (topAt T d o gs j) ≤ lw T d o (topAt T d o gs i) := by
  have p := List.pairwise_mergeSort (le := fun i j => leD (rowAt T d o gs i) (rowAt T d o gs j)) (fun a b c => leD_trans _ _ _) (fun a b => leD_total _ _) (List.range gs.length)
  refine p.imp fun {i j} h => ?_
  unfold leD at h
  have h0 : lexS (keyL (rowAt T d o gs j)) (keyL (rowAt T d o gs i)) = false := by simpa using h
  have h : lexS (.inl (0 - (lw T d o (topAt T d o gs j) : Int)) :: [.inr (topAt T d o gs j).cps.toList, .inl (j : Int)]) (.inl (0 - (lw T d o (topAt T d o gs i) : Int)) :: [.inr (topAt T d o gs i).cps.toList, .inl (i : Int)]) = false := h0
  by_cases e : (0 - (lw T d o (topAt T d o gs j) : Int)) = 0 - (lw T d o (topAt T d o gs i) : Int)
  · omega
  · rw [lexS, if_neg (fun z => e (Sum.inl.inj z))] at h
    have : ¬ (0 - (lw T d o (topAt T d o gs j) : Int)) < 0 - (lw T d o (topAt T d o gs i) : Int) := of_decide_eq_false h
    omega
section
variable {T : Tr} {d : Str → Str → Int} {o : Str} {gs : List (List Str)} (M : Met T d) (ho : o ∈ T.names) (F : Fam T d gs)
include F
theorem Fam.at_ {k : Nat} (h : k < gs.length) : IsGrp T d (grpAt gs k) := by
  unfold grpAt
  rw [List.getElem?_eq_getElem h]
  exact F.2 _ (List.getElem_mem h)
theorem Fam.top {k : Nat} (h : k < gs.length) : IsTop T d o (grpAt gs k) (topAt T d o gs k) := by
  obtain ⟨t, ht⟩ := top_some (T := T) (d := d) (o := o) (F.at_ h).1
  exact topC_ok ht
include M ho
theorem Fam.told : (toldH T d o gs).1.length = (toldH T d o gs).2.length ∧ (toldH T d o gs).1.Nodup ∧ (∀ k ∈ (toldH T d o gs).2, k < gs.length) ∧ (∀ k, k < gs.length → ∃ x ∈ grpAt gs k, x ∈ (toldH T d o gs).1) ∧ (toldH T d o gs).2.Pairwise (fun i j => ∀ x ∈ grpAt gs i, x ∉ grpAt gs j) ∧ (∀ x ∈ (toldH T d o gs).1, x ∈ T.names) := by
  have lt : ∀ k ∈ ordG T d o gs, k < gs.length := fun k hk => List.mem_range.mp ((ordG_perm T d o gs).mem_iff.mp hk)
  have T0 : Taken (topAt T d o gs) (grpAt gs) (fun k => lw T d o (topAt T d o gs k)) [] [] [] := ⟨rfl, List.nodup_nil, (fun _ z => nomatch z), (fun _ z => nomatch z), List.Pairwise.nil⟩
  have K := takes_ok (fun k => k < gs.length) (topAt T d o gs) (grpAt gs) (fun k => lw T d o (topAt T d o gs k)) (fun k hk => (F.top hk).1) (fun i j hi hj le ⟨x, h1, h2⟩ =>
    M.top_in ho (F.at_ hi).2.2.1 (F.at_ hj).2.2.1 (F.at_ hi).2.2.2 (F.at_ hj).2.2.2 (F.top hi) (F.top hj) le h1 h2) (ordG T d o gs) [] [] [] lt (ordG_deep T d o gs) T0
  have e0 : takes (topAt T d o gs) (grpAt gs) (ordG T d o gs) [] [] = toldH T d o gs := rfl
  rw [e0] at K
  have sub : ∀ k ∈ (toldH T d o gs).2, k < gs.length := fun k hk => lt k (K.sub k hk)
  refine ⟨by rw [K.tops, List.length_map], K.nd, sub, fun k hk => K.hit k ((ordG_perm T d o gs).mem_iff.mpr (List.mem_range.mpr hk)), K.apart, fun x hx => ?_⟩
  rw [K.tops] at hx
  obtain ⟨k, hk, rfl⟩ := List.mem_map.mp hx
  exact (F.at_ (sub k hk)).2.2.1 _ (F.top (sub k hk)).1
end
end DL

set_option Elab.async false
set_option linter.all false
set_option maxRecDepth 100000
namespace DL
open PySem PySem.Spec PyProof.Rows L2

/-! ### what the program's defs of groups promise -/
def rootT (T : Tr) : Str := (T.names[0]?).getD ""
theorem root_in {T : Tr} {d : Str → Str → Int} (L : LTree T d) : rootT T ∈ T.names ∧ ∃ w, T.nodes[0]? = some (rootT T, w) := by
  obtain ⟨p, ep⟩ := at_lt (ns := T.nodes) (j := 0) (by have := L.len; omega)
  have e : T.names[0]? = some p.1 := by rw [Tr.names, List.getElem?_map, ep] <;> rfl
  have er : rootT T = p.1 := by unfold rootT; rw [e] <;> rfl
  rw [er]
  exact ⟨List.mem_of_getElem? e, p.2, ep⟩
def sp_top_of : SpT := fun ds e q => ∃ T d g, ds = [treeD T, grpD g] ∧ LTree T d ∧ IsGrp T d g ∧ ∀ t, IsTop T d (rootT T) g t → q (.str t)
def sp_hit : SpT := fun ds e q => ∃ T d gs, ds = [treeD T, .lst (gs.map grpD)] ∧ LTree T d ∧ Fam T d gs ∧ q (toldD T d (rootT T) gs)
theorem toldD_ok {T : Tr} {d : Str → Str → Int} {o : Str} {gs : List (List Str)} (L : LTree T d) (ho : o ∈ T.names) (F : Fam T d gs) : (toldD T d o gs).ok = true ∧ (toldD T d o gs).dep ≤ 64 := by
  obtain ⟨_, _, _, _, _, sub⟩ := F.told L.met ho
  have a1 : okA (sortD ((toldH T d o gs).1.map .str)) = true := okA_mem fun x hx => by
    obtain ⟨s, hs, rfl⟩ := List.mem_map.mp ((sortD_perm _).mem_iff.mp hx)
    exact nm_strOk (L.nm s (sub s hs))
  have a2 : okA (sortD (natsD (toldH T d o gs).2)) = true := okA_mem fun x hx => by
    obtain ⟨s, hs, rfl⟩ := List.mem_map.mp ((sortD_perm _).mem_iff.mp hx)
    rfl
  have flatA : ∀ ds : List D, (∀ x ∈ ds, x.dep = 0) → depA ds ≤ 0 := fun ds h => by
    have := depA_map (g := fun d : D => d) (l := ds) (n := 0) fun x hx => by rw [h x hx]; exact Nat.le_refl _
    rw [List.map_id'] at this
    exact this
  have d1 := flatA (sortD ((toldH T d o gs).1.map .str)) fun x hx => by
    obtain ⟨s, hs, rfl⟩ := List.mem_map.mp ((sortD_perm _).mem_iff.mp hx)
    rfl
  have d2 := flatA (sortD (natsD (toldH T d o gs).2)) fun x hx => by
    obtain ⟨s, hs, rfl⟩ := List.mem_map.mp ((sortD_perm _).mem_iff.mp hx)
    rfl
  refine ⟨?_, ?_⟩
  · show (okA (sortD ((toldH T d o gs).1.map .str)) && (okA (sortD (natsD (toldH T d o gs).2)) && true)) = true
    rw [a1, a2] <;> rfl
  · show max (depA (sortD ((toldH T d o gs).1.map .str)) + 1) (max (depA (sortD (natsD (toldH T d o gs).2)) + 1) 0) + 1 ≤ 64
    omega
/-! ### a tree of one node -/
def oneT : Tr := ⟨[("a", 1)], []⟩
theorem one_ltree : LTree oneT fun _ _ => 0 := by
  have no : ∀ {a x : Str} {l : Int}, (x, l) ∉ oneT.adj a := fun {a x l} h => by cases h
  have mem : ∀ {x : Str}, x ∈ oneT.names → x = "a" := fun {x} h => List.mem_singleton.mp h
  refine ⟨⟨by decide, fun h => absurd h no, fun a => List.nodup_nil, fun h => absurd h no, fun _ _ => Int.le_refl _, fun _ => rfl, fun _ _ => rfl, fun _ h => absurd h no, fun hs hx n => absurd ((mem hs).trans (mem hx).symm) n, fun _ h => absurd h no⟩, by decide, by decide, fun x hx => ?_, fun p hp => ?_, (fun _ z => nomatch z), ?_, (fun _ z => nomatch z), List.Pairwise.nil⟩
  · rw [mem hx]
    exact .inl ⟨97, by decide, .inl (by decide +kernel)⟩
  · rw [List.mem_singleton.mp hp]
    decide
  · exact List.pairwise_singleton _ _
theorem told_nil (T : Tr) (d : Str → Str → Int) (o : Str) : toldD T d o [] = .tup [.lst [], .lst []] := by
  have e : ordG T d o [] = [] := by
    unfold ordG
    rw [List.length_nil, List.range_zero, List.mergeSort_nil]
  unfold toldD toldH
  rw [e]
  show D.tup [.lst (sortD []), .lst (sortD [])] = _
  unfold sortD
  rw [List.mergeSort_nil]
theorem grp_at {gs : List (List Str)} {k : Nat} (h : k < gs.length) : gs[k]? = some (grpAt gs k) := by
  unfold grpAt
  rw [List.getElem?_eq_getElem h] <;> rfl
theorem rows_srtb (T : Tr) (d : Str → Str → Int) (o : Str) (gs : List (List Str)) (l : List Nat) : SrtbD (l.map (rowAt T d o gs)) := .inr ⟨true, [false, true], fun x hx => by
  obtain ⟨k, _, rfl⟩ := List.mem_map.mp hx
  exact ⟨_, rfl, rfl, rfl⟩⟩
theorem nats_srtb (l : List Nat) : SrtbD (natsD l) := .inl ⟨true, fun x hx => by
  obtain ⟨k, _, rfl⟩ := List.mem_map.mp hx
  exact ⟨rfl, rfl⟩⟩
theorem best_top {T : Tr} {d : Str → Str → Int} {o : Str} {g : List Str} {x : D} (h : bestD ltP (g.map fun y => D.tup [.int (lw T d o y : Int), .str y]) = some x) : ∃ t, x = .tup [.int (lw T d o t : Int), .str t] ∧ IsTop T d o g t := by
  obtain ⟨t, ht, rfl⟩ := List.mem_map.mp (bestD_mem h)
  refine ⟨t, rfl, ht, fun y hy => ?_⟩
  have := min_best h _ (List.mem_map.mpr ⟨y, hy, rfl⟩)
  rw [ltD_tup (ds := [.int (lw T d o y : Int), .str y]) (es := [.int (lw T d o t : Int), .str t]) rfl rfl rfl] at this
  have this : lexS (.inl (lw T d o y : Int) :: [.inr y.cps.toList]) (.inl (lw T d o t : Int) :: [.inr t.cps.toList]) = false := this
  by_cases e : (lw T d o y : Int) = lw T d o t
  · omega
  · rw [lexS, if_neg (fun z => e (Sum.inl.inj z))] at this
    have : ¬ (lw T d o y : Int) < lw T d o t := of_decide_eq_false this
    omega
end DL

set_option Elab.async false
set_option linter.all false
set_option maxRecDepth 100000
/-! t[i:j] of a tuple, not the whole of it. -/
namespace DL
open PySem PySem.Spec PyProof.Rows L2
def rSlP (K : PySem.W.Frag) : V → Option Int → Option Int → Hp → VK → Prop := fun x lo hi H Q => ∃ a xs, x = .ref a ∧ SqT K H a xs ∧ ¬ (HT.sIx xs.length 0 lo = 0 ∧ HT.sIx xs.length xs.length hi = xs.length) ∧
  ∀ p ob, H p = none → ob.dict = none → Q (.ref p) (upd H p (.frz ob (.tup (cutV xs lo hi))))
section
variable {X : Cx} {W : WX} {a : Expr} {ta : ET} {pos : Pos}
theorem sl_tupP : SlR X (rSlP X.K) := by
  rintro pins s σ H x v vl vu lo hi sl Q I rx hs pl pu ⟨b, xs, rfl, hx, hw, q⟩
  obtain rfl : v = Value.ref b := rx
  obtain ⟨its, r, ht, hz⟩ := I.tuple hx
  have n : its.toArray.size = xs.length := by rw [List.size_toArray, ← r.length]
  have cut : Vals (cutV xs lo hi) ((its.drop (HT.sIx xs.length 0 lo)).take (HT.sIx xs.length xs.length hi - HT.sIx xs.length 0 lo)) := (r.drop _).take _
  have fin := lay_tup (tk := s.toks) I cut (Nat.le_trans (cutV_length xs lo hi) hz)
  exact ⟨"tuple", _, slot_tuple_getitem.lookup, ht.typeIs, HT.getItem_tuple_cut ht hs pl pu (n ▸ hw) (by rw [n]; exact ⟨.ref _, _, fin, rfl, q _ _ (I.hok.fresh (Nat.le_refl _)) rfl⟩) (n ▸ hz)⟩
/-- of data that is a tuple -/
def eSlT (t : ET) (lo hi : OT) : ET := fun e δ q => t e δ fun _ x => lo e δ fun l => hi e δ fun u => match x with
  | .tup ds => ¬ (HT.sIx ds.length 0 l = 0 ∧ HT.sIx ds.length ds.length u = ds.length) ∧ q .fz (.tup (cutD ds l u))
  | _ => False
theorem de_sliceT {p2 : Pos} {lo hi : Option Expr} {tl th : OT} (ha : DE X W a ta) (hl : DO X W lo tl) (hh : DO X W hi th) : DE X W (.Subscript a (.Slice lo hi none p2) pos) (eSlT ta tl th) :=
  PE.imp (pe_slice sl_tupP ha hl hh) fun σ H Q ⟨B, δ, e, q, r0, h, ok, bad⟩ => by
  refine ⟨B, δ, e, _, r0, h, fun v1 H1 g1 d1 s1 R1 h1 => ?_, bad⟩
  refine ⟨B, δ, e, _, r0.ext s1, h1, fun o2 H2 s2 h2 => ?_, fun cls dx H' x s => bad cls dx H' x (s1.trans s)⟩
  refine ⟨B, δ, e, _, (r0.ext s1).ext s2, h2, fun o3 H3 s3 h3 => ?_, fun cls dx H' x s => bad cls dx H' x ((s1.trans s2).trans s)⟩
  have rr := ((r0.ext s1).ext s2).ext s3
  have hb := (R1.toB r0).same (s2.trans s3) (DRel.frz_ext (s2.trans s3))
  split at h3
  · obtain ⟨p, vs, rfl, z1, z2⟩ := hb
    refine ⟨p, vs, rfl, (tp_cut z1).sq, by rw [z2.len]; exact h3.1, fun p' ob hp ho => ?_⟩
    exact ok _ _ .fz _ (((s1.trans s2).trans s3).trans (same_upd' hp)) ((resTup rr hp ho (z2.cut o2 o3)).back ((s1.trans s2).trans s3)) h3.2
  · exact h3.elim
end
end DL

set_option Elab.async false
set_option linter.all false
set_option maxRecDepth 100000
/-! gcd; min and max over the values of a dict. -/
namespace DL
open PySem PySem.Spec PyProof.Rows L2
open PySem.W (AlikeAll)
section
variable {X : Cx} {W : WX} {e : Expr} {es : List Expr} {t : AT} {ta : ET} {p1 p apos cpos pos : Pos}
/-! ### gcd -/
def fGcd : F1 := fun ds q => match ds with
  | [.int a, .int b] => q .fz (.int ((Nat.gcd a.natAbs b.natAbs : Nat) : Int))
  | _ => False
theorem snd_gcd : SndC X.K rGcd fGcd := by
  intro B H δ σ vs ds q Q r h hf ok
  unfold fGcd at hf
  split at hf
  · rename_i a b
    obtain ⟨v, w, rfl, h1, h2⟩ := h.two
    have e1 := h1.int
    have e2 := h2.int
    subst e1 e2
    exact ⟨a, b, rfl, ok _ H .fz (.int ((Nat.gcd a.natAbs b.natAbs : Nat) : Int)) (Same.refl H) rfl hf⟩
  · exact hf.elim
theorem de_gcd {x : Str} (hg : Gl X x) (hm : X.mg x = some (.builtin "math.gcd")) (ha : DA X W (e :: es) t) (hdb : (x == ("__debug__" : Str)) = false := by decide)
    (he : starEach (e :: es) X.env = (false, eval e X.env) :: starEach es X.env := by rfl) (hpl : (backTo pos (starEach es X.env)).any (·.1) = false := by rfl) : DE X W (.Call (.Name x p) (e :: es) [] pos) (eCB fGcd t) :=
  PE.imp (pe_callBfun cr_gcd hg hm ha hdb he hpl) (liftC snd_gcd)
/-! ### min and max of values -/
def rBestV (bt : List PyData → Nat → Nat → Bool) (K : PySem.W.Frag) : List V → Hp → VK → Prop := fun xs H Q => ∃ (r d : Addr) (kvs : List (Key × V)) (ps : List PyData), xs = [.ref r] ∧ H r = some (VwO d r) ∧ Rd H d (.dK kvs) ∧ DpAll K H (kvs.map (·.2)) ps ∧ (AlikeAll ps ∧ PyData.depthAll ps ≤ 60 ∧ 0 < ps.length) ∧
  ∀ v, (kvs.map (·.2))[argBest (bt ps) (ps.length - 1)]? = some v → Q v H
theorem cr_minV (hc : X.calm = true) (hu : X.A.units + 64 < cLine) : CallR X (.builtin "min") (rBestV ltP X.K) := by
  rintro pins s σ H xs us Q I rv ⟨r, d, kvs, ps, rfl, hr, hd, dp, ⟨al, dep, pos⟩, q⟩
  rw [Vals.ref1 rv]
  have view : s.heap.IsValuesView r d := (I.hok r _ hr).1
  obtain ⟨small, ns, vs, kv, dd⟩ := dk_rd I.hok hd
  obtain ⟨ep, da⟩ : ∃ ep, s.heap.DictAt (mixKind X.prog X.w) d vs ep := let ⟨o, es, ep, r⟩ := dd; ⟨ep, o, es, r⟩
  obtain ⟨as, hrd⟩ := Dp.readsAll I ps (kvs.map (·.2)) (vs.map (·.2)) dp (vals_at kv)
  have hn : (vs.map (·.2)).toArray.size = ps.length := PySem.W.readsAll_len (vs := (vs.map (·.2)).toArray) hrd
  have ln : ps.length = vs.length := by rw [← hn]; simp
  have KS := PySem.W.kdl_values (prog := X.prog) (w := X.w) (r := r) (d := d) (knd := mixKind X.prog X.w) (kvs := vs) (ep := ep)
  obtain ⟨oI, St, hit, W, st⟩ := KS.iter X.A.in1 s (I.ok.hd hc) ⟨view, da⟩
  have cmp := PySem.W.cmpIn_lt (prog := X.prog) (w := X.w) (A := X.A.in1) (vs := (vs.map (·.2)).toArray) hrd al (by show X.A.units + 1 + _ < _; omega)
  refine call_min_walkH (hit _ _ ⟨s.heap.objs.size, _, _, _, _, _, _, s.heap, _, rfl, W.toS, st, fun b hb => ?_, by omega, fun b o e hb => ?_, fun b o e => Heap.get?_push_of_some _ e,
    fun i j vi vj s' Q' E' hk ⟨k1, e1⟩ ⟨k2, e2⟩ hq => cmp i j vi vj s' Q' E' hk (by simp [e1]) (by simp [e2]) hq, fun v s' hP m => ?_⟩)
  · show b < (s.heap.push oI).objs.size
    rw [size_push']
    rcases List.mem_cons.mp hb with e | hb
    · rw [e]; exact Nat.lt_succ_self _
    · rw [List.mem_singleton.mp hb]; exact Nat.lt_succ_of_lt (KS.there _ ⟨view, da⟩).2
  · rw [List.mem_singleton.mp hb] at e
    exact Nat.lt_irrefl _ (Heap.lt_size e)
  · obtain ⟨h', tk, rfl, hk'⟩ := PySem.W.moved_old (s := s) rfl rfl m
    obtain ⟨k, hP⟩ := hP
    rw [← ln] at hP
    obtain ⟨x, ex, rx⟩ := vals_get' (vals_at kv) (by rw [List.getElem?_map, hP] <;> rfl)
    exact ⟨x, H, I.kept hk', rx, q x ex⟩
theorem cr_maxV (hc : X.calm = true) (hu : X.A.units + 64 < cLine) : CallR X (.builtin "max") (rBestV gtP X.K) := by
  rintro pins s σ H xs us Q I rv ⟨r, d, kvs, ps, rfl, hr, hd, dp, ⟨al, dep, pos⟩, q⟩
  rw [Vals.ref1 rv]
  have view : s.heap.IsValuesView r d := (I.hok r _ hr).1
  obtain ⟨small, ns, vs, kv, dd⟩ := dk_rd I.hok hd
  obtain ⟨ep, da⟩ : ∃ ep, s.heap.DictAt (mixKind X.prog X.w) d vs ep := let ⟨o, es, ep, r⟩ := dd; ⟨ep, o, es, r⟩
  obtain ⟨as, hrd⟩ := Dp.readsAll I ps (kvs.map (·.2)) (vs.map (·.2)) dp (vals_at kv)
  have hn : (vs.map (·.2)).toArray.size = ps.length := PySem.W.readsAll_len (vs := (vs.map (·.2)).toArray) hrd
  have ln : ps.length = vs.length := by rw [← hn]; simp
  have KS := PySem.W.kdl_values (prog := X.prog) (w := X.w) (r := r) (d := d) (knd := mixKind X.prog X.w) (kvs := vs) (ep := ep)
  obtain ⟨oI, St, hit, W, st⟩ := KS.iter X.A.in1 s (I.ok.hd hc) ⟨view, da⟩
  have cmp := PySem.W.cmpIn_gt (prog := X.prog) (w := X.w) (A := X.A.in1) (vs := (vs.map (·.2)).toArray) hrd al (by show X.A.units + 1 + _ < _; omega)
  refine call_max_walkH (hit _ _ ⟨s.heap.objs.size, _, _, _, _, _, _, s.heap, _, rfl, W.toS, st, fun b hb => ?_, by omega, fun b o e hb => ?_, fun b o e => Heap.get?_push_of_some _ e,
    fun i j vi vj s' Q' E' hk ⟨k1, e1⟩ ⟨k2, e2⟩ hq => cmp i j vi vj s' Q' E' hk (by simp [e1]) (by simp [e2]) hq, fun v s' hP m => ?_⟩)
  · show b < (s.heap.push oI).objs.size
    rw [size_push']
    rcases List.mem_cons.mp hb with e | hb
    · rw [e]; exact Nat.lt_succ_self _
    · rw [List.mem_singleton.mp hb]; exact Nat.lt_succ_of_lt (KS.there _ ⟨view, da⟩).2
  · rw [List.mem_singleton.mp hb] at e
    exact Nat.lt_irrefl _ (Heap.lt_size e)
  · obtain ⟨h', tk, rfl, hk'⟩ := PySem.W.moved_old (s := s) rfl rfl m
    obtain ⟨k, hP⟩ := hP
    rw [← ln] at hP
    obtain ⟨x, ex, rx⟩ := vals_get' (vals_at kv) (by rw [List.getElem?_map, hP] <;> rfl)
    exact ⟨x, H, I.kept hk', rx, q x ex⟩
def eBestV (bt : List PyData → Nat → Nat → Bool) (ta : ET) : ET := fun e δ q => ta e δ fun _ x => match x with
  | .dic kds => BestOk (kds.map (·.2)) ∧ ∀ d, bestD bt (kds.map (·.2)) = some d → q .fz d
  | _ => False
theorem lift_bestV (bt : List PyData → Nat → Nat → Bool) : ∀ σ H Q, Lift X.K W (eBestV bt ta) σ H Q → tCB (rBestV bt X.K) (tCons (tVals (Lift X.K W ta)) tNil) σ H Q := by
  rintro σ H Q ⟨B, δ, e, q, r0, h, ok, bad⟩
  refine ⟨B, δ, e, _, r0, h, fun v H1 g x s1 R hq => ?_, bad⟩
  cases x with
  | dic kds =>
    obtain ⟨d, kvs, rfl, rd, rk⟩ := (R.toB r0 : BRep X.K H1 (Frz B H1 δ σ) (.dic kds) v)
    obtain ⟨bo, hq⟩ := hq
    refine ⟨d, kvs, rfl, rd, fun r hr => ?_⟩
    have s2 := s1.trans (same_upd' (o := VwO d r) hr)
    have rr : RepA X.K (Frz B (upd H1 r (VwO d r)) δ σ) none (kds.map (·.2)) (kvs.map (·.2)) := RepA.same (DRel.frz_ext (same_upd' hr)) rk.vals
    refine ⟨r, d, kvs, pyA (kds.map (·.2)), rfl, upd_same .., Same.rd (same_upd' hr) rd, RepA.dp _ _ bo.1.2 (RepA.same (cut_le _ _) rr), ⟨bo.1.1, bo.2.1, by rw [pyA_len]; exact bo.2.2⟩, fun v hv => ?_⟩
    rw [pyA_len] at hv
    obtain ⟨c, ec, rc⟩ := rr.get' hv
    exact ok v _ .fz c s2 rc (hq c ec)
  | _ => exact hq.elim
theorem de_minV (hc : X.calm = true) (hu : X.A.units + 64 < cLine) (hg : Gl X "min") (hm : X.mg "min" = none) (ha : DE X W e ta) (hbase : attributeBase e "values" X.env (eval e X.env) = eval e X.env := by rfl) (hline : (apos.endLine == cpos.line) = true := by rfl)
    (he : starEach [.Call (.Attribute e "values" apos) [] [] cpos] X.env = (false, eval (.Call (.Attribute e "values" apos) [] [] cpos) X.env) :: starEach [] X.env := by rfl) : DE X W (.Call (.Name "min" p1) [.Call (.Attribute e "values" apos) [] [] cpos] [] pos) (eBestV ltP ta) :=
  PE.imp (pe_callB (cr_minV hc hu) hg hm bt_min (pa_cons (pe_vals ha hbase hline) pa_nil he) (by decide) (by decide) he) (lift_bestV ltP)
theorem de_maxV (hc : X.calm = true) (hu : X.A.units + 64 < cLine) (hg : Gl X "max") (hm : X.mg "max" = none) (ha : DE X W e ta) (hbase : attributeBase e "values" X.env (eval e X.env) = eval e X.env := by rfl) (hline : (apos.endLine == cpos.line) = true := by rfl)
    (he : starEach [.Call (.Attribute e "values" apos) [] [] cpos] X.env = (false, eval (.Call (.Attribute e "values" apos) [] [] cpos) X.env) :: starEach [] X.env := by rfl) : DE X W (.Call (.Name "max" p1) [.Call (.Attribute e "values" apos) [] [] cpos] [] pos) (eBestV gtP ta) :=
  PE.imp (pe_callB (cr_maxV hc hu) hg hm bt_max (pa_cons (pe_vals ha hbase hline) pa_nil he) (by decide) (by decide) he) (lift_bestV gtP)
end
/-! ### a op b op' c as a value -/
section
variable {X : Cx} {W : WX} {a b c : Expr} {ta tb tc : ET} {pos : Pos}
def eChain (f f' : F2b) (ta tb tc : ET) : ET := fun e δ q => ta e δ fun _ x => tb e δ fun _ y => f x y fun k => if k = true then tc e δ fun _ z => f' y z fun b => q .fz (.bl b) else q .fz (.bl false)
theorem de_chain {op op' : CmpOp} {r r' : R2} {f f' : F2b} (hs : Snd2b X.K r f) (ho : OpR X (compareOp op) r) (hs' : Snd2b X.K r' f') (ho' : OpR X (compareOp op') r') (ha : DE X W a ta) (hb : DE X W b tb) (hc : DE X W c tc)
    (hm : lastMarks [op, op'] [b, c] = false := by with_unfolding_all rfl) : DE X W (.Compare a [op, op'] [b, c] pos) (eChain f f' ta tb tc) := PE.imp (pe_chain ho ho' ha hb hc hm) fun σ H Q => by
  rintro ⟨B, δ, e, q, r0, h, ok, bad⟩
  refine ⟨B, δ, e, _, r0, h, fun v1 H1 g1 d1 s1 R1 h1 => ?_, bad⟩
  refine ⟨B, δ, e, _, r0.ext s1, h1, fun v2 H2 g2 d2 s2 R2 h2 => ?_, fun cls dx H' x s => bad cls dx H' x (s1.trans s)⟩
  have r2 := (r0.ext s1).ext s2
  refine hs H2 _ v1 v2 d1 d2 _ _ (cut_le _ _) ((R1.toB r0).same s2 (DRel.frz_ext s2)) (R2.toB (r0.ext s1)) h2 fun k hq => ⟨k, rfl, ?_⟩
  cases k with
  | false =>
    rw [if_neg Bool.false_ne_true] at hq ⊢
    exact ok _ _ .fz (.bl false) (s1.trans s2) rfl hq
  | true =>
    rw [if_pos rfl] at hq ⊢
    refine ⟨B, δ, e, _, r2, hq, fun v3 H3 g3 d3 s3 R3 h3 => ?_, fun cls dx H' x s => bad cls dx H' x ((s1.trans s2).trans s)⟩
    exact hs' H3 _ v2 v3 d2 d3 _ _ (cut_le _ _) ((R2.toB (r0.ext s1)).same s3 (DRel.frz_ext s3)) (R3.toB r2) h3 fun b hq => ok _ _ .fz (.bl b) ((s1.trans s2).trans s3) rfl hq
end
/-! ### t[i:j] of a tuple, whatever it is -/
def rSlB (K : PySem.W.Frag) : V → Option Int → Option Int → Hp → VK → Prop := fun x lo hi H Q => ∃ a xs, x = .ref a ∧ SqT K H a xs ∧ ((HT.sIx xs.length 0 lo = 0 ∧ HT.sIx xs.length xs.length hi = xs.length) → Q (.ref a) H) ∧
  (¬ (HT.sIx xs.length 0 lo = 0 ∧ HT.sIx xs.length xs.length hi = xs.length) → ∀ p ob, H p = none → ob.dict = none → Q (.ref p) (upd H p (.frz ob (.tup (cutV xs lo hi)))))
section
variable {X : Cx} {W : WX} {a : Expr} {ta : ET} {pos : Pos}
theorem sl_tupB : SlR X (rSlB X.K) := by
  rintro pins s σ H x v vl vu lo hi sl Q I rx hs pl pu ⟨b, xs, rfl, hx, q1, q2⟩
  by_cases hw : HT.sIx xs.length 0 lo = 0 ∧ HT.sIx xs.length xs.length hi = xs.length
  · cases rx
    obtain ⟨its, r, ht, hz⟩ := I.tuple hx
    have n : its.toArray.size = xs.length := by rw [List.size_toArray, ← r.length]
    exact ⟨"tuple", _, slot_tuple_getitem.lookup, ht.typeIs, getItem_tuple_whole ht hs pl pu (by rw [n]; exact hw) ⟨.ref b, H, I, rfl, q1 hw⟩⟩
  · exact sl_tupP pins s σ H _ v vl vu lo hi sl Q I rx hs pl pu ⟨b, xs, rfl, hx, hw, q2 hw⟩
def eSlA (t : ET) (lo hi : OT) : ET := fun e δ q => t e δ fun _ x => lo e δ fun l => hi e δ fun u => match x with
  | .tup ds => q .fz (.tup (cutD ds l u))
  | _ => False
theorem de_sliceA {p2 : Pos} {lo hi : Option Expr} {tl th : OT} (ha : DE X W a ta) (hl : DO X W lo tl) (hh : DO X W hi th) : DE X W (.Subscript a (.Slice lo hi none p2) pos) (eSlA ta tl th) :=
  PE.imp (pe_slice sl_tupB ha hl hh) fun σ H Q ⟨B, δ, e, q, r0, h, ok, bad⟩ => by
  refine ⟨B, δ, e, _, r0, h, fun v1 H1 g1 d1 s1 R1 h1 => ?_, bad⟩
  refine ⟨B, δ, e, _, r0.ext s1, h1, fun o2 H2 s2 h2 => ?_, fun cls dx H' x s => bad cls dx H' x (s1.trans s)⟩
  refine ⟨B, δ, e, _, (r0.ext s1).ext s2, h2, fun o3 H3 s3 h3 => ?_, fun cls dx H' x s => bad cls dx H' x ((s1.trans s2).trans s)⟩
  have rr := ((r0.ext s1).ext s2).ext s3
  have hb := (R1.toB r0).same (s2.trans s3) (DRel.frz_ext (s2.trans s3))
  split at h3
  · rename_i ds
    have hb0 : Rep X.K (Frz B H3 δ σ) none (.tup ds) v1 := hb
    obtain ⟨p, vs, rfl, z1, z2⟩ := hb
    refine ⟨p, vs, rfl, (tp_cut z1).sq, fun hw => ?_, fun _ p' ob hp ho => ?_⟩
    · have e : cutD ds o2 o3 = ds := by
        rw [z2.len] at hw
        unfold cutD
        rw [hw.1, hw.2, List.drop_zero, Nat.sub_zero, List.take_length]
      rw [e] at h3
      exact ok _ _ .fz (.tup ds) ((s1.trans s2).trans s3) hb0 h3
    · exact ok _ _ .fz _ (((s1.trans s2).trans s3).trans (same_upd' hp)) ((resTup rr hp ho (z2.cut o2 o3)).back ((s1.trans s2).trans s3)) h3
  · exact h3.elim
end
/-! ### a, b = x, y of plain local names -/
section
variable {X : Cx} {W : WX} {a b : Expr} {t : AT} {px py pt pt2 pos : Pos} {kt k2 : Nat} {x y : Str}
theorem ds_par (i j : Nat) (hc : X.calm = true) (hN : X.N.Nodup) (ha : DI X W [a, b] t)
    (hw : swappedStores [.Tuple [.Name x px, .Name y py] kt pt] (.Tuple [a, b] k2 pt2) X.env = pure (some [x, y]) := by rfl)
    (hi : X.N[i]? = some x := by rfl) (hj : X.N[j]? = some y := by rfl) (hij : i ≠ j := by decide) (hx : X.env.scope.names.lookup x = some .local := by rfl) (hy : X.env.scope.names.lookup y = some .local := by rfl) :
    DS X W (.Assign [.Tuple [.Name x px, .Name y py] kt pt] (.Tuple [a, b] k2 pt2) pos) (sAsg (eTup t) (tTup (fits 2 (tsCons (tName i) (tsCons (tName j) tsNil))))) :=
  PS.imp (ps_par hc hN hi hj hij hx hy ha hw) fun N σ H ⟨B, δ, E, r, h, nx, rt, bk, ct, xe⟩ => by
  refine ⟨B, δ, fun x => E.xe x δ, _, r, h, fun vs H' ds s R hq => ?_, fun cls dx H' x s xr hx => xe cls dx δ σ H' x (r.ext s) (DRel.frz_ext s) xr hx⟩
  obtain ⟨_, hl, hg⟩ := hq
  match ds, hl, hg, R with
  | [d1, d2], _, hg, R =>
    obtain ⟨v, _, rfl, r1, w, _, rfl, r2, z⟩ := R
    cases z
    refine ⟨v, w, rfl, ?_⟩
    obtain ⟨ra, sa⟩ := (r.ext s).putSh (i := i) r1
    obtain ⟨rb, sb⟩ := ra.putSh (i := j) (Rep.same sa r2)
    exact nx _ _ _ rb ((DRel.frz_ext s).trans (sa.trans sb)) hg
end
/-! ### facts of the head -/
/-- the name x stands for the value v in the main module -/
def bvB (x : Str) (v : Value) : Fx := fun K => decide (PySem.W.nsIn K mainGlobals x = some (some v))
theorem bvB_ok {K : PySem.W.Frag} {h : Heap} {mg : Str → Option Value} (X : K.In h) (G : h.Ns mainGlobals mg) {x : Str} {v : Value} (c : bvB x v K = true) : mg x = some v := PySem.W.mg_of X G (of_decide_eq_true c)
end DL

set_option Elab.async false
set_option linter.all false
set_option maxRecDepth 100000
/-! a, b = a list -/
namespace DL
open PySem PySem.Spec PyProof.Rows L2
theorem assign_list {prog : Program} {w : World} {A : Around} {E : Value → Shared → Prop} {s : Shared} {env : Env} {l : Addr} {elts : List Expr} {k : Nat} {pos : Pos} {items : Array Value} {Q : Unit → Shared → Prop}
    (hh : A.handled = none) (hl : s.heap.IsList l items) (hn : (assignEach elts env).length = items.size) (hst : (assignEach elts env).findIdx? (·.1) = none)
    (h : ∀ h', Heap.ExtBut s.heap.objs.size s.heap h' → wpAny (model prog w) A (assignInOrder ((assignEach elts env).map (·.2)) items.toList) Q E { s with heap := h' }) : wpAny (model prog w) A (assign (.Tuple elts k pos) env (.ref l)) Q E s := by
  rw [assign_Tuple]
  refine wpAny_bind (wpAny_standAt ?_)
  unfold PySem.unpack
  rw [hn, hst]
  exact wpAny_bind (wpAny_holding (PySem.W.kun_itemsOf hh hl h))
def gLst (K : PySem.W.Frag) (n : Nat) (t : TGs) : TG := fun v σ H Q => ∃ a xs, v = .ref a ∧ SqL K H a xs ∧ xs.length = n ∧ t xs σ H Q
section
variable {X : Cx} {es : List Expr} {pos : Pos}
theorem pg_lst {k n : Nat} {t : TGs} (hc : X.calm = true) (h : PGs X es t) (hn : (assignEach es X.env).length = n) (hst : (assignEach es X.env).findIdx? (·.1) = none) : PG X (.Tuple es k pos) (gLst X.K n t) := by
  refine ⟨fun pins s σ H v u Q I r hw => ?_⟩
  obtain ⟨a, xs, rfl, hq, hl, hw⟩ := hw
  cases r
  obtain ⟨its, rv, ht, _⟩ := I.list hq
  refine assign_list (I.ok.hd hc) ht.isList (by rw [hn, ← hl, rv.length]; rfl) hst fun h' hx => ?_
  have I1 := I.kept (t' := s.toks) fun b o e => hx b o (Nat.ne_of_lt (Heap.lt_size e)) e
  exact h.run pins _ σ H xs _ Q I1 rv hw
/-- (a, b, ..) of a list -/
def tTupL (gs : DL.GTs) : GT := fun f d δ q => match f, d with
  | .wk, _ => False
  | f, .lst ds => gs f ds δ q
  | _, _ => False
theorem dg_tupL {ws : List Nat} {gs : DL.GTs} {k : Nat} {n : Nat} (hc : X.calm = true) (h : DGs X ws es gs) (hn : (assignEach es X.env).length = n := by rfl) (hst : (assignEach es X.env).findIdx? (·.1) = none := by rfl) : DG X ws (.Tuple es k pos) (tTupL (fits n gs)) :=
  PG.imp (pg_lst hc h hn hst) fun v σ H Q ⟨B, δ, f, d, q, r, R, h, ok⟩ => by
  cases d with
  | lst ds =>
    cases f with
    | wk => exact h.elim
    | sh =>
      obtain ⟨a, vs, rfl, z1, z2⟩ := R
      exact ⟨a, vs, rfl, SqL.mono (fun _ _ => rd_cut) z1, (RepA.len z2).trans h.1, B, δ, .sh, ds, q, r, z2, h.2, ok⟩
    | fr =>
      obtain ⟨a, vs, rfl, z1, z2⟩ := R
      exact ⟨a, vs, rfl, .inl (rd_cut (Or.inl z1.2)), (RepA.len z2).trans h.1, B, δ, .fr, ds, q, r, z2, h.2, ok⟩
  | _ => cases f <;> exact h.elim
end
end DL

set_option Elab.async false
set_option linter.all false
set_option maxRecDepth 100000
namespace DL
open PySem PySem.Spec PyProof.Rows L2

/-! ### the helpers of the laws from k46 on: draws, trees, names, neighbors -/
def sp_law_drawB : SpT := sp_law_draw
/-! _law_draw: script 0, k 1, sizes 2, cell 3, drawn 4, size 5, stirred 6, j 7 -/
def N_law_drawB : List Str := ["script", "k", "sizes", "cell", "drawn", "size", "stirred", "j"]
def t_law_drawB_1 : ST := (sRet (eVar 4))
def t_law_drawB_2 : ST := (sRet (eVar 4))
def t_law_drawB_3 : ST := (sSeq (sSet 6 (eOp (fI (fun _ j => 0 < j) (· % ·)) (eOp fAdd (eOp fAdd (eVar 3) (eC (.int 1))) (eOp (fI CMul (· * ·)) (eC (.int 31)) (eVar 1))) (eC (.int 2147483647))))
  (sSeq (sForget [0, 1, 3, 5, 7] (sFor (itR1 (aCons (eCB fLen (aCons (eVar 2) aNil)) aNil)) (tName 7) (sSeq (sSet 6 (eOp (fI (fun _ j => 0 < j) (· % ·)) (eOp fAdd (eOp fAdd (eOp (fI CMul (· * ·)) (eVar 6) (eC (.int 48271))) (eC (.int 11))) (eVar 7)) (eC (.int 2147483647))))
  (sSeq (sSet 6 (eOp (fI (fun _ j => 0 < j) (· % ·)) (eOp fAdd (eOp (fI CMul (· * ·)) (eVar 6) (eC (.int 69621))) (eC (.int 3))) (eC (.int 2147483647))))
  (sApp 4 (eOp (fI (fun _ j => 0 < j) (· % ·)) (eOp (fI CDiv (· / ·)) (eVar 6) (eC (.int 7))) (eOp fIx (eVar 2) (eVar 7)))))) [0, 1, 3, 5, 7]))
  t_law_drawB_2))
def t_law_drawB_4 : ST := (sSeq (sSet 4 (eLst aNil))
  (sSeq (sIf (bCmp fGe (eVar 3) (eOp (fI CPow fun i j => i ^ j.toNat) (eC (.int 10)) (eC (.int 18)))) (sSeq (sSet 3 (eOp fSub (eVar 3) (eOp (fI CPow fun i j => i ^ j.toNat) (eC (.int 10)) (eC (.int 18)))))
  (sSeq (sForget [0, 1, 5, 6, 7] (sFor (itSeq (eVar 2)) (tName 5) (sSeq (sApp 4 (eOp (fI (fun _ j => 0 < j) (· % ·)) (eVar 3) (eVar 5)))
  (sSet 3 (eOp (fI CDiv (· / ·)) (eVar 3) (eVar 5)))) [0, 1, 2, 5, 6, 7]))
  t_law_drawB_1)) sNext)
  t_law_drawB_3))
def t_law_drawB : ST := (sSeq (sSet 3 (eCall sp_law_cell (aCons (eVar 0) (aCons (eVar 1) aNil))))
  (sSeq (sIf (bCmp fLt (eVar 3) (eC (.int 0))) (sSet 3 (eNeg (eVar 3))) sNext)
  t_law_drawB_4))
theorem len_law_drawB : ∀ ds e q, sp_law_drawB ds e q → ds.length = ["script", "k", "sizes"].length := len_law_draw
theorem m_law_drawB : ∀ ds e q, sp_law_drawB ds e q → t_law_drawB { nx := fun _ => q .non, rt := q, xe := fun x _ => e x } (startD N_law_drawB ds) := m_law_draw
def sp_law_nearB : SpT := sp_law_near
/-! _law_near: tree 0, name 1, found 2, first 3, second 4, length 5 -/
def N_law_nearB : List Str := ["tree", "name", "found", "first", "second", "length"]
def t_law_nearB_1 : ST := (sIf (bCmp fEq (eVar 4) (eVar 1)) (sApp 2 (eTup (iCons (eVar 3) (iCons (eVar 5) aNil)))) sNext)
def t_law_nearB_2 : ST := (sRet (eCB fSorted (aCons (eVar 2) aNil)))
def t_law_nearB : ST := (sSeq (sSet 2 (eLst aNil))
  (sSeq (sForget [3, 4, 5] (sFor (itSeq (eOp fIx (eVar 0) (eC (.int 1)))) (tTup (fits 3 (tsCons (tName 3) (tsCons (tName 4) (tsCons (tName 5) tsNil))))) (sSeq (sIf (bCmp fEq (eVar 3) (eVar 1)) (sApp 2 (eTup (iCons (eVar 4) (iCons (eVar 5) aNil)))) sNext)
  t_law_nearB_1) [0, 3, 4, 5]))
  t_law_nearB_2))
theorem len_law_nearB : ∀ ds e q, sp_law_nearB ds e q → ds.length = ["tree", "name"].length := len_law_near
theorem m_law_nearB : ∀ ds e q, sp_law_nearB ds e q → t_law_nearB { nx := fun _ => q .non, rt := q, xe := fun x _ => e x } (startD N_law_nearB ds) := m_law_near
def sp_law_names : SpT := fun ds e q => ∃ T, ds = [treeD T] ∧ Small T ∧ q (strsD T.names)
/-! _law_names: tree 0, name 1, weight 2 -/
def N_law_names : List Str := ["tree", "name", "weight"]
def t_law_names : ST := (sRet (eLc (itSeq (eOp fIx (eVar 0) (eC (.int 0)))) [1, 2] (tTup (fits 2 (tsCons (tName 1) (tsCons (tName 2) tsNil)))) bYes (eVar 1)))
theorem len_law_names : ∀ ds e q, sp_law_names ds e q → ds.length = ["tree"].length := by
  rintro _ e q ⟨T, rfl, _⟩
  rfl
theorem m_law_names : ∀ ds e q, sp_law_names ds e q → t_law_names { nx := fun _ => q .non, rt := q, xe := fun x _ => e x } (startD N_law_names ds) := by
  rintro _ e q ⟨T, rfl, hs, h⟩
  refine ⟨.tup (T.nodes.map nodeD), rfl, ⟨⟨trivial, trivial, trivial⟩, by rw [List.length_map]; exact line1000 hs.1⟩, ?_⟩
  refine lcR_map nodeD (fun p => .str p.1) (fun p q hq => ⟨rfl, hq .fz (fun z => nomatch z)⟩) T.nodes _ ?_
  rw [show T.nodes.map (fun p => D.str p.1) = T.names.map D.str by rw [Tr.names, List.map_map] <;> rfl]
  exact ⟨immA_map (fun _ => rfl) _, h⟩
/-! ### the drawn tree -/
def sp_law_treeB : SpT := fun ds e q => ∃ ns k most, ds = [intsD ns, .int k, .int most] ∧ 0 ≤ k ∧ (1 ≤ most ∧ most ≤ 12) ∧ ∀ T d, LTree T d → (T.nodes.length : Int) ≤ most → q (treeD T)
/-! _law_tree: script 0, k 1, most 2, digits 3, names 4, many 5, nodes 6, edges 7, j 8, weight 9, other 10, length 11, first 12, second 13 -/
def N_law_treeB : List Str := ["script", "k", "most", "digits", "names", "many", "nodes", "edges", "j", "weight", "other", "length", "first", "second"]
def t_law_treeB_1 : ST := (sSeq (sSet 11 (eOp fAdd (eC (.int 1)) (eOp fIx (eVar 3) (eOp fAdd (eC (.int 5)) (eOp (fI CMul (· * ·)) (eC (.int 3)) (eVar 8))))))
  (sSeq (sAsg (eCB fSorted (aCons (eLst (iCons (eOp fIx (eVar 4) (eVar 8)) (iCons (eOp fIx (eVar 4) (eVar 10)) aNil))) aNil)) (tTupL (fits 2 (tsCons (tName 12) (tsCons (tName 13) tsNil)))))
  (sApp 7 (eTup (iCons (eVar 12) (iCons (eVar 13) (iCons (eVar 11) aNil)))))))
def t_law_treeB_2 : ST := (sRet (eTup (iCons (eCB fTuple (aCons (eCB fSorted (aCons (eVar 6) aNil)) aNil)) (iCons (eCB fTuple (aCons (eCB fSorted (aCons (eVar 7) aNil)) aNil)) aNil))))
def t_law_treeB : ST := (sSeq (sSet 3 (eCall sp_law_drawB (aCons (eVar 0) (aCons (eVar 1) (aCons (eOp fAdd (eLst (iCons (eVar 2) (iCons (eC (.int 4)) (iCons (eC (.int 3)) aNil)))) (eRep (eLst (iCons (eC (.int 9)) (iCons (eC (.int 40)) (iCons (eC (.int 12)) aNil)))) (eC (.int 12)))) aNil)))))
  (sSeq (sSet 4 (eLst (iCons (eC (.str "m")) (iCons (eC (.str "a")) (iCons (eC (.str "h1")) (iCons (eC (.str "c")) (iCons (eC (.str "z9")) (iCons (eC (.str "b")) (iCons (eC (.str "h2")) (iCons (eC (.str "dd")) (iCons (eC (.str "k")) (iCons (eC (.str "e")) (iCons (eC (.str "y")) (iCons (eC (.str "f")) aNil))))))))))))))
  (sSeq (sSet 5 (eOp fAdd (eC (.int 1)) (eOp fIx (eVar 3) (eC (.int 0)))))
  (sSeq (sSet 6 (eLst aNil))
  (sSeq (sSet 7 (eLst aNil))
  (sSeq (sForget [0, 1, 2, 8, 9, 10, 11, 12, 13] (sFor (itR1 (aCons (eVar 5) aNil)) (tName 8) (sSeq (sSet 9 (eOp fIx (eLst (iCons (eOp fIx (eVar 3) (eOp fAdd (eC (.int 4)) (eOp (fI CMul (· * ·)) (eC (.int 3)) (eVar 8)))) (iCons (eC (.int 0)) (iCons (eOp (fI CMul (· * ·)) (eOp fIx (eVar 3) (eOp fAdd (eC (.int 4)) (eOp (fI CMul (· * ·)) (eC (.int 3)) (eVar 8)))) (eC (.int 20))) (iCons (eC (.int 1)) aNil))))) (eOp fIx (eVar 3) (eC (.int 1)))))
  (sSeq (sApp 6 (eTup (iCons (eOp fIx (eVar 4) (eVar 8)) (iCons (eVar 9) aNil))))
  (sIf (bCmp fGt (eVar 8) (eC (.int 0))) (sSeq (sSet 10 (eOp (fI (fun _ j => 0 < j) (· % ·)) (eOp fIx (eVar 3) (eOp fAdd (eC (.int 3)) (eOp (fI CMul (· * ·)) (eC (.int 3)) (eVar 8)))) (eVar 8)))
  (sSeq (sIf (bCmp fEq (eOp fIx (eVar 3) (eC (.int 2))) (eC (.int 0))) (sSet 10 (eOp fSub (eVar 8) (eC (.int 1)))) sNext)
  t_law_treeB_1)) sNext))) [0, 1, 2, 5, 8, 9, 10, 11, 12, 13]))
  t_law_treeB_2))))))
theorem len_law_treeB : ∀ ds e q, sp_law_treeB ds e q → ds.length = ["script", "k", "most"].length := by
  rintro _ e q ⟨ns, k, most, rfl, _⟩
  rfl
theorem sort_two {a b : Str} (h : a ≠ b) : sortD [.str a, .str b] = [.str (minT a b), .str (maxT a b)] := by
  have e1 : sortD ([a, b].map D.str) = (sortT [a, b]).map D.str := sortT_map _
  have nd : (sortT [a, b]).Nodup := (sortT_perm [a, b]).nodup_iff.mpr (List.nodup_cons.mpr ⟨fun z => h (List.mem_singleton.mp z), List.nodup_cons.mpr ⟨List.not_mem_nil, List.nodup_nil⟩⟩)
  have a1 := ascT_of (sortT_asc [a, b]) nd
  have a2 : AscT [minT a b, maxT a b] := by
    rcases min_max a b h with ⟨m1, m2, lt⟩ | ⟨m1, m2, lt⟩
    · rw [m1, m2]
      exact List.pairwise_cons.mpr ⟨fun y hy => by rw [List.mem_singleton.mp hy]; exact lt, List.pairwise_singleton _ _⟩
    · rw [m1, m2]
      exact List.pairwise_cons.mpr ⟨fun y hy => by rw [List.mem_singleton.mp hy]; exact lt, List.pairwise_singleton _ _⟩
  have e2 : sortT [a, b] = [minT a b, maxT a b] := ascT_eq (fun x => by
    rw [(sortT_perm [a, b]).mem_iff]
    rcases min_max a b h with ⟨m1, m2, _⟩ | ⟨m1, m2, _⟩
    · rw [m1, m2]
    · rw [m1, m2, List.mem_cons, List.mem_cons, List.mem_cons, List.mem_cons]
      have nn : ∀ y : Str, ¬ y ∈ ([] : List Str) := fun y => List.not_mem_nil
      simp only [nn, or_false]
      exact or_comm) a1 a2
  rw [e2] at e1
  exact e1
def szT (most : Int) : List Int := [most, 4, 3] ++ (List.replicate 12 [9, 40, 12]).flatten
theorem szT_at (most : Int) : ∀ j : Fin 12, (szT most)[3 + 3 * j.val]? = some 9 ∧ (szT most)[4 + 3 * j.val]? = some 40 ∧ (szT most)[5 + 3 * j.val]? = some 12 := by
  have h : ∀ j : Fin 12, ((List.replicate 12 [(9 : Int), 40, 12]).flatten)[3 * j.val]? = some 9 ∧ ((List.replicate 12 [(9 : Int), 40, 12]).flatten)[3 * j.val + 1]? = some 40 ∧ ((List.replicate 12 [(9 : Int), 40, 12]).flatten)[3 * j.val + 2]? = some 12 := by decide +kernel
  intro j
  obtain ⟨h1, h2, h3⟩ := h j
  have g : ∀ i, (szT most)[3 + i]? = ((List.replicate 12 [(9 : Int), 40, 12]).flatten)[i]? := fun i => by
    unfold szT
    rw [List.getElem?_append_right (by show 3 ≤ 3 + i; omega)]
    congr 1
    show 3 + i - 3 = i
    omega
  refine ⟨by rw [g]; exact h1, ?_, ?_⟩
  · rw [show 4 + 3 * j.val = 3 + (3 * j.val + 1) by omega, g]
    exact h2
  · rw [show 5 + 3 * j.val = 3 + (3 * j.val + 2) by omega, g]
    exact h3
theorem digB_at {dg : List Int} {most : Int} (hb : Bnd dg (szT most)) {j : Nat} (hj : j < 12) : (∃ a, atI (dg.map D.int) (3 + 3 * (j : Int)) = some (.int a) ∧ 0 ≤ a) ∧ (∃ a, atI (dg.map D.int) (4 + 3 * (j : Int)) = some (.int a) ∧ 0 ≤ a ∧ a < 40) ∧ ∃ a, atI (dg.map D.int) (5 + 3 * (j : Int)) = some (.int a) ∧ 0 ≤ a ∧ a < 12 := by
  obtain ⟨s0, s1, s2⟩ := szT_at most ⟨j, hj⟩
  obtain ⟨a, ea, a1, a2⟩ := hb.get s0
  obtain ⟨b, eb, b1, b2⟩ := hb.get s1
  obtain ⟨c, ec, c1, c2⟩ := hb.get s2
  have ea := atI_int ea
  have eb := atI_int eb
  have ec := atI_int ec
  push_cast at ea eb ec
  exact ⟨⟨a, ea, a1⟩, ⟨b, eb, b1, b2⟩, c, ec, c1, c2⟩
theorem newN_nd : newN.Nodup := by decide +kernel
theorem newN_at {j : Nat} (hj : j < 12) : ∃ x, newN[j]? = some x := ⟨newN[j]'hj, List.getElem?_eq_getElem hj⟩
theorem m_law_treeB : ∀ ds e q, sp_law_treeB ds e q → t_law_treeB { nx := fun _ => q .non, rt := q, xe := fun x _ => e x } (startD N_law_treeB ds) := by
  rintro _ e q ⟨ns, k, most, rfl, hk, hm, h⟩
  refine ⟨show 3 ≤ sizeLine by decide, show 3 ≤ sizeLine by decide, ⟨by decide, by decide, by decide⟩, (show 39 ≤ sizeLine by decide), ns, k, szT most, rfl, hk, by show 39 ≤ 1000; decide, ?_, fun dg hb => ?_⟩
  · intro s hs
    rcases List.mem_append.mp hs with hs | hs
    · rcases List.mem_cons.mp hs with rfl | hs
      · omega
      · have : ∀ x ∈ [(4 : Int), 3], 1 ≤ x ∧ x ≤ 1000000 := by decide
        exact this s hs
    · have : ∀ x ∈ (List.replicate 12 [(9 : Int), 40, 12]).flatten, 1 ≤ x ∧ x ≤ 1000000 := by decide +kernel
      exact this s hs
  obtain ⟨h0, e0, b0, b0'⟩ := hb.get (j := 0) rfl
  obtain ⟨h1, e1, b1, b1'⟩ := hb.get (j := 1) rfl
  obtain ⟨h2, e2, b2, b2'⟩ := hb.get (j := 2) rfl
  have at0 : atI (dg.map D.int) 0 = some (.int h0) := atI_int (j := 0) e0
  have at1 : atI (dg.map D.int) 1 = some (.int h1) := atI_int (j := 1) e1
  have at2 : atI (dg.map D.int) 2 = some (.int h2) := atI_int (j := 2) e2
  refine ⟨(show 12 ≤ sizeLine by decide), .int h0, at0, Nat.zero_le _, Nat.zero_le _, ⟨by omega, by omega⟩, ?_⟩
  show forR _ _ _ _ _ (rangeD 0 (1 + h0).toNat) _
  refine forR_upto (n := (1 + h0).toNat) (fun i δ => ∃ x5 nodes edges, δ = [.un, .un, .un, .fr (intsD dg), .ow (strsD newN), x5, .ow (.lst (nodes.map nodeD)), .ow (.lst ((edges.map normE).map edgeD)), .un, .un, .un, .un, .un, .un] ∧ Half newN i nodes edges) ?_ ?_ _ ⟨_, [], [], rfl, rfl, fun _ z => by simp at z, fun _ z => by simp at z, fun _ => rfl, fun z => absurd z (Nat.lt_irrefl 0), Nat.le_refl _⟩
  · rintro δ ⟨x5, nodes, edges, rfl, hf⟩
    have en : nodes.map (·.1) = newN.take (1 + h0).toNat := hf.nm
    have ln : nodes.length = (1 + h0).toNat := by
      have := congrArg List.length en
      rw [List.length_map, List.length_take, show newN.length = 12 from rfl] at this
      omega
    have pts : Parts nodes edges := by
      refine ⟨by omega, fun x hx => .inr ?_, hf.wt, hf.ln, ?_⟩
      · rw [en] at hx
        exact List.mem_of_mem_take hx
      · obtain ⟨r, ok, q2⟩ := hf.bld (by omega)
        rw [en]
        exact ⟨r, ok, q2⟩
    obtain ⟨d, L⟩ := ltree_of pts
    refine ⟨srtb2 _, srtb3 _, show 2 ≤ sizeLine by decide, ?_⟩
    show retTg .fz (.tup [.tup (sortD (nodes.map nodeD)), .tup (sortD ((edges.map normE).map edgeD))]) = true ∧ q (.tup [.tup (sortD (nodes.map nodeD)), .tup (sortD ((edges.map normE).map edgeD))])
    rw [sort2_map, sort3_map]
    refine ⟨?_, h _ d L ?_⟩
    · show immA [.tup _, .tup _] = true
      unfold immA immA immA D.imm
      rw [immA_map (fun _ => rfl), immA_map (fun _ => rfl)] <;> rfl
    · show (((sort2 nodes).length : Nat) : Int) ≤ most
      rw [(sort2_perm nodes).length_eq]
      omega
  · rintro j δ nx hj ⟨x5, nodes, edges, rfl, hf⟩ hnx
    have hj12 : j < 12 := by omega
    obtain ⟨⟨a, ea, a1⟩, ⟨b, eb, b1, b2⟩, c, ec, c1, c2⟩ := digB_at hb hj12
    obtain ⟨nj, enj⟩ := newN_at hj12
    have nl : nodes.length ≤ 12 := by
      have := congrArg List.length hf.nm
      rw [List.length_map, List.length_take] at this
      omega
    have enj' : atI (newN.map D.str) (j : Int) = some (.str nj) := at_map D.str enj
    obtain ⟨w, ew, hw⟩ : ∃ w, atI [D.int b, .int 0, .int (b * 20), .int 1] h1 = some (.int w) ∧ 0 ≤ w ∧ w ≤ 999 := by
      have : h1 = 0 ∨ h1 = 1 ∨ h1 = 2 ∨ h1 = 3 := by omega
      rcases this with rfl | rfl | rfl | rfl
      · exact ⟨b, rfl, by omega, by omega⟩
      · exact ⟨0, rfl, by omega, by omega⟩
      · exact ⟨b * 20, rfl, by omega, by omega⟩
      · exact ⟨1, rfl, by omega, by omega⟩
    have eN : (nodes ++ [(nj, w)]).map nodeD = nodes.map nodeD ++ [.tup [.str nj, .int w]] := by simp [nodeD]
    have ll : (nodes.map nodeD).length < sizeLine := by
      rw [List.length_map]
      exact lt1000 (by omega)
    refine ⟨.inl ⟨by decide, by decide⟩, .int b, eb, .inl ⟨by decide, by decide⟩, .int b, eb, .inr ⟨by decide, by decide⟩, (show 4 ≤ sizeLine by decide), .int h1, at1, .int w, ew, .str nj, enj', (show 2 ≤ sizeLine by decide), ll, ?_⟩
    refine ite2D (fun cj => ?_) fun cj => ?_
    · have cj : (0 : Int) < j := of_decide_eq_true cj
      have one : ∀ o : Nat, o < j → t_law_treeB_1 { nx := fun δ' => nx (forget [0, 1, 2, 5, 8, 9, 10, 11, 12, 13] δ'), ct := fun δ' => nx (forget [0, 1, 2, 5, 8, 9, 10, 11, 12, 13] δ'), bk := t_law_treeB_2 { nx := fun _ => q .non, rt := q, xe := fun x _ => e x }, rt := q, xe := fun x _ => e x }
          [.un, .un, .un, .fr (intsD dg), .ow (strsD newN), x5, .ow (.lst (nodes.map nodeD ++ [.tup [.str nj, .int w]])), .ow (.lst ((edges.map normE).map edgeD)), .sh (.int j), .sh (.int w), .sh (.int o), .un, .un, .un] := by
        intro o ho
        obtain ⟨no, eno⟩ := newN_at (j := o) (by omega)
        have eno' : atI (newN.map D.str) (o : Int) = some (.str no) := at_map D.str eno
        have ne : nj ≠ no := fun z => by
          obtain ⟨l1, q1⟩ := List.getElem?_eq_some_iff.mp enj
          obtain ⟨l2, q2⟩ := List.getElem?_eq_some_iff.mp eno
          have := (List.getElem_inj newN_nd).mp (q1.trans (z.trans q2.symm))
          omega
        have el := hf.el
        refine ⟨.inl ⟨by decide, by decide⟩, .int c, ec, .str nj, enj', .str no, eno', (show 2 ≤ sizeLine by decide), srtbT [nj, no], ?_⟩
        rw [sort_two ne]
        refine ⟨rfl, (show 3 ≤ sizeLine by decide), by rw [List.length_map, List.length_map]; exact lt1000 (by omega), hnx _ ⟨.un, _, _, ?_, hf.next newN_nd enj ho eno hw (show 1 ≤ 1 + c ∧ 1 + c ≤ 999 by omega)⟩⟩
        rw [eN, List.map_append, List.map_append]
        rfl
      refine ⟨.inl ⟨by decide, by decide⟩, .int a, ea, cj, .int h2, at2, ite2D (fun c2 => ?_) fun c2 => ?_⟩
      · have := one (j - 1) (by omega)
        rw [show ((j - 1 : Nat) : Int) = (j : Int) - 1 by omega] at this
        exact this
      · have m2 : 0 ≤ a % (j : Int) ∧ a % (j : Int) < j := ⟨Int.emod_nonneg _ (by omega), Int.emod_lt_of_pos _ cj⟩
        obtain ⟨o, ho, lo⟩ : ∃ o : Nat, a % (j : Int) = (o : Int) ∧ o < j := ⟨(a % (j : Int)).toNat, by omega, by omega⟩
        have := one o lo
        rw [← ho] at this
        exact this
    · have cj : ¬ (0 : Int) < j := of_decide_eq_false cj
      have z : j = 0 := by omega
      subst z
      refine hnx _ ⟨.un, _, _, ?_, hf.first enj hw⟩
      rw [eN]
      rfl
end DL

set_option Elab.async false
set_option linter.all false
set_option maxRecDepth 100000
namespace DL
open PySem PySem.Spec PyProof.Rows L2

/-! ### ways: a path grows by a node -/
section
variable {T : Tr} {d : Str → Str → Int} {a x y : Str} {l : Int}
structure WayOk (T : Tr) (d : Str → Str → Int) (a x : Str) (r : List Str) : Prop where
  path : IsPath T d a x r
  chn : Chn T d a r
  hd : r[0]? = some a
  lst : r.getLast? = some x
theorem way_one (M : Met T d) (ha : a ∈ T.names) : WayOk T d a a [a] := by
  refine ⟨⟨fun z => ⟨fun h => ?_, fun ⟨hz, o⟩ => ?_⟩, List.pairwise_singleton _ _⟩, fun i u v h1 h2 => ?_, rfl, rfl⟩
  · rw [List.mem_singleton.mp h]
    have := M.d0 a
    exact ⟨ha, by unfold On; omega⟩
  · exact M.conv_one ha a (by simp) a (by simp) z hz o
  · simp at h2
theorem WayOk.snoc (M : Met T d) (ha : a ∈ T.names) (hx : x ∈ T.names) {r : List Str} (h : WayOk T d a x r) (hl : (y, l) ∈ T.adj x) (e : d a y = d a x + l) : WayOk T d a y (r ++ [y]) := by
  have hy := (M.mem hl).2.1
  have lp := (M.mem hl).2.2.1
  refine ⟨⟨fun z => ?_, ?_⟩, fun i u v h1 h2 => ?_, ?_, by simp⟩
  · constructor
    · intro hz
      rcases List.mem_append.mp hz with hz | hz
      · obtain ⟨z1, z2⟩ := (h.path.mem z).mp hz
        exact ⟨z1, (M.on_snoc ha hx hl e z1).mpr (.inl z2)⟩
      · rw [List.mem_singleton.mp hz]
        exact ⟨hy, (M.on_snoc ha hx hl e hy).mpr (.inr rfl)⟩
    · rintro ⟨z1, z2⟩
      rcases (M.on_snoc ha hx hl e z1).mp z2 with o | rfl
      · exact List.mem_append_left _ ((h.path.mem z).mpr ⟨z1, o⟩)
      · exact List.mem_append_right _ (by simp)
  · refine List.pairwise_append.mpr ⟨h.path.asc, List.pairwise_singleton _ _, fun u hu v hv => ?_⟩
    rw [List.mem_singleton.mp hv]
    obtain ⟨_, o⟩ := (h.path.mem u).mp hu
    have := M.pos u x
    unfold On at o
    omega
  · rw [List.getElem?_append] at h2
    split at h2
    · rename_i hi
      rw [List.getElem?_append_left (by omega)] at h1
      exact h.chn i u v h1 h2
    · rename_i hi
      have hi2 := (List.getElem?_eq_some_iff.mp h2).1
      rw [List.length_singleton] at hi2
      have ei : i + 1 = r.length := by omega
      have : y = v := by
        rw [ei, Nat.sub_self] at h2
        simpa using h2
      subst this
      rw [List.getElem?_append_left (by omega)] at h1
      have hla := h.lst
      rw [List.getLast?_eq_getElem?, show r.length - 1 = i by omega, h1] at hla
      cases hla
      exact ⟨l, M.sym hl, e⟩
  · have : 0 < r.length := (List.getElem?_eq_some_iff.mp h.hd).1
    rw [List.getElem?_append_left this]
    exact h.hd
end
def waysK (ks : List Str) (wy : Str → List Str) : List (Key × D) := ks.map fun x => (.inr x, strsD (wy x))
theorem ways_look {ks : List Str} {wy : Str → List Str} {x : Str} (h : x ∈ ks) : lookD (waysK ks wy) (.inr x) = some (strsD (wy x)) := by
  induction ks with
  | nil => cases h
  | cons k ks ih =>
    unfold lookD waysK at ih ⊢
    rw [List.map_cons, List.find?_cons]
    by_cases e : k = x
    · subst e
      simp
    · have : decide ((Sum.inr k : Key) = .inr x) = false := decide_eq_false fun z => e (Sum.inr.inj z)
      rw [this]
      rcases List.mem_cons.mp h with h | h
      · exact absurd h.symm e
      · exact ih h
theorem ways_none {ks : List Str} {wy : Str → List Str} {x : Str} (h : x ∉ ks) : lookD (waysK ks wy) (.inr x) = none := by
  unfold lookD waysK
  rw [Option.map_eq_none_iff, List.find?_eq_none]
  intro kv hk
  obtain ⟨p, hp, rfl⟩ := List.mem_map.mp hk
  have : p ≠ x := fun e => h (by rw [← e]; exact hp)
  simpa using this
theorem ways_put {ks : List Str} {wy : Str → List Str} {x : Str} {r : List Str} (h : x ∉ ks) : putD (waysK ks wy) (.inr x) (strsD r) = waysK (ks ++ [x]) (fun z => if z = x then r else wy z) := by
  have e : waysK ks wy = waysK ks (fun z => if z = x then r else wy z) := by
    unfold waysK
    refine List.map_congr_left fun z hz => ?_
    show _ = (Sum.inr z, strsD (if z = x then r else wy z))
    rw [if_neg fun e => h (by rw [← e]; exact hz)]
  rw [e]
  unfold waysK
  rw [putD_new, List.map_append]
  · congr 1
    show _ = [((Sum.inr x : Key), strsD (if x = x then r else wy x))]
    rw [if_pos rfl]
  · intro kv hk e
    obtain ⟨p, hp, rfl⟩ := List.mem_map.mp hk
    exact h (by rw [← Sum.inr.inj e]; exact hp)
def sp_law_ways : SpT := fun ds e q => ∃ T d a, ds = [treeD T, .str a] ∧ Met T d ∧ Small T ∧ a ∈ T.names ∧ ∀ ks wy, ks.Nodup → (∀ x, x ∈ ks ↔ x ∈ T.names) → (∀ x ∈ T.names, WayOk T d a x (wy x)) → q (.dic (waysK ks wy))
/-! _law_ways: tree 0, start 1, ways 2, row 3, turn 4, other 5, length 6 -/
def N_law_ways : List Str := ["tree", "start", "ways", "row", "turn", "other", "length"]
def t_law_ways_1 : ST := (sRetL (eVar 2))
def t_law_ways : ST := (sSeq (sSet 2 (eDisp [((eVar 1), (eLst (iCons (eVar 1) aNil)))]))
  (sSeq (sSet 3 (eLst (iCons (eVar 1) aNil)))
  (sSeq (sForget [1, 4, 5, 6] (sFor (itR1 (aCons (eCB fLen (aCons (eOp fIx (eVar 0) (eC (.int 0))) aNil)) aNil)) (tName 4) (sIf (bCmp fLt (eVar 4) (eCB fLen (aCons (eVar 3) aNil))) (sForget [1, 5, 6] (sFor (itSeq (eCall sp_law_nearB (aCons (eVar 0) (aCons (eOp fIx (eVar 3) (eVar 4)) aNil)))) (tTup (fits 2 (tsCons (tName 5) (tsCons (tName 6) tsNil)))) (sIf (bCmp (fIn true) (eVar 5) (eVar 2)) (sSeq (sAsg (eOp fAdd (eOp fIx (eVar 2) (eOp fIx (eVar 3) (eVar 4))) (eLst (iCons (eVar 5) aNil))) (tSub 2 (eVar 5)))
  (sSet 3 (eOp fAdd (eVar 3) (eLst (iCons (eVar 5) aNil))))) sNext) [1, 5, 6])) sNext) [1, 4, 5, 6]))
  t_law_ways_1)))
theorem len_law_ways : ∀ ds e q, sp_law_ways ds e q → ds.length = ["tree", "start"].length := by
  rintro _ e q ⟨T, d, a, rfl, _⟩
  rfl
theorem m_law_ways : ∀ ds e q, sp_law_ways ds e q → t_law_ways { nx := fun _ => q .non, rt := q, xe := fun x _ => e x, lent := True } (startD N_law_ways ds) := by
  rintro _ e q ⟨T, d, a, rfl, M, hsm, ha, h⟩
  have n1000 := hsm.1
  have bounds : -(2 ^ 62) ≤ ((T.nodes.map nodeD).length : Int) ∧ ((T.nodes.map nodeD).length : Int) < 2 ^ 62 := by
    rw [List.length_map]
    omega
  refine ⟨(show 1 ≤ sizeLine by decide), (show 1 ≤ 15 by decide), (show 1 ≤ sizeLine by decide), .tup (T.nodes.map nodeD), rfl, bounds, ?_⟩
  rw [List.length_map, Int.toNat_natCast]
  refine forR_upto (fun t δ => ∃ bk wy, δ = [.sh (treeD T), .un, .ow (.dic (waysK (keysT bk) wy)), .ow (strsD (keysT bk)), .un, .un, .un] ∧ Bfs T d a bk ∧ (∀ x ∈ keysT bk, WayOk T d a x (wy x)) ∧ ∀ i x, i < t → (keysT bk)[i]? = some x → ∀ y l, (y, l) ∈ T.adj x → y ∈ keysT bk) ?_ ?_ _
    ⟨[(a, a)], fun _ => [a], rfl, ⟨by simp [keysT], by simpa [keysT] using ha, by simp [keysT], fun x p hx n => ?_, fun x hx y l hy ey => ?_⟩, fun x hx => ?_, fun i x hi => absurd hi (Nat.not_lt_zero _)⟩
  · rintro δ ⟨bk, wy, rfl, hB, hw, hc⟩
    have hall := hB.all M ha fun z hz y l hy => by
      obtain ⟨i, hi, e⟩ := List.getElem_of_mem hz
      refine hc i z ?_ (by rw [List.getElem?_eq_getElem hi, e]) y l hy
      have := hB.len
      simp only [keysT, List.length_map] at hi
      omega
    exact ⟨⟨trivial, rfl⟩, h _ wy hB.nd (fun x => ⟨hB.sub x, hall x⟩) fun x hx => hw x (hall x hx)⟩
  · rintro t δ nx ht ⟨bk, wy, rfl, hB, hw, hc⟩ hnx
    refine ite2D (fun c => ?_) fun c => ?_
    · have c : (t : Int) < ((keysT bk).map D.str).length := of_decide_eq_true c
      rw [List.length_map] at c
      obtain ⟨x, ex⟩ := at_lt (ns := keysT bk) (j := t) (by omega)
      have ex' : ∀ {k : Txt2}, (keysT k)[t]? = some x → atI ((keysT k).map D.str) (t : Int) = some (.str x) := fun {k} z => atI_nat (by rw [List.getElem?_map, z] <;> rfl)
      refine ⟨.str x, ex' ex, T, x, rfl, hsm, M.loopless, ?_⟩
      refine forR_map nodeD (fun r δ => ∃ bk' wy', δ = [.sh (treeD T), .un, .ow (.dic (waysK (keysT bk') wy')), .ow (strsD (keysT bk')), .sh (.int t), .un, .un] ∧ Bfs T d a bk' ∧ (∀ x ∈ keysT bk', WayOk T d a x (wy' x)) ∧ (keysT bk')[t]? = some x ∧ (∀ i z, i < t → (keysT bk')[i]? = some z → ∀ y l, (y, l) ∈ T.adj z → y ∈ keysT bk') ∧
        (∀ y l, (y, l) ∈ T.adj x → (y, l) ∈ r ∨ y ∈ keysT bk') ∧ ∀ y l, (y, l) ∈ r → (y, l) ∈ T.adj x) ?_ ?_ (T.near x) _ ⟨bk, wy, rfl, hB, hw, ex, hc, fun y l hy => .inl ((sort2_perm _).mem_iff.mpr hy), fun y l hy => (sort2_perm _).mem_iff.mp hy⟩
      · rintro δ ⟨bk', wy', rfl, hB', hw', ex2, hc', hr, _⟩
        refine hnx _ ⟨bk', wy', rfl, hB', hw', fun i z hi hz y l hy => ?_⟩
        by_cases q : i = t
        · subst q
          rw [ex2] at hz
          cases hz
          rcases hr y l hy with q | q
          · cases q
          · exact q
        · exact hc' i z (by omega) hz y l hy
      · rintro ⟨y, l⟩ r δ nx' ⟨bk', wy', rfl, hB', hw', ex2, hc', hr, hr2⟩ hnx'
        have hadj := hr2 y l (by simp)
        have xk : x ∈ keysT bk' := List.mem_of_getElem? ex2
        have sz := hB'.len
        have szk : (keysT bk').length ≤ 1000 := by
          rw [keysT, List.length_map]
          omega
        refine ⟨rfl, ite2D (fun c => ?_) fun c => ?_⟩
        · have hn : y ∉ keysT bk' := fun hy => by
            have c : (!(lookD (waysK (keysT bk') wy') (.inr y)).isSome) = true := c
            rw [ways_look hy] at c
            cases c
          have hG := hB'.grow M ha xk hadj hn
          have ek := keysT_app (bk := bk') (x := x) (y := y) y
          have ey : d a y = d a x + l := by
            rcases M.step ha hadj with e | e
            · exact e
            · exact absurd (hB'.back x xk y l hadj e) hn
          have wl := (hw' x xk).path.len
          have nxt := (hw' x xk).snoc M ha (hB'.sub x xk) hadj ey
          refine ⟨.str x, ex' ex2, strsD (wy' x), ways_look xk, (show 1 ≤ sizeLine by decide), ?_, (fun z => nomatch z), ?_, (show 1 ≤ sizeLine by decide), ?_, ?_⟩
          · show ((wy' x).map D.str).length + 1 ≤ sizeLine
            rw [List.length_map]
            exact Nat.le_trans (by omega : _ ≤ 1001) (by decide)
          · unfold waysK
            rw [List.length_map]
            exact lt1000 szk
          · show ((keysT bk').map D.str).length + 1 ≤ sizeLine
            rw [List.length_map]
            exact Nat.le_trans (by omega : _ ≤ 1001) (by decide)
          · show nx' [.sh (treeD T), .un, .ow (.dic (putD (waysK (keysT bk') wy') (.inr y) (.lst ((wy' x).map D.str ++ [.str y])))), .ow (.lst ((keysT bk').map D.str ++ [.str y])), .sh (.int t), .un, .un]
            rw [show D.lst ((wy' x).map D.str ++ [.str y]) = strsD (wy' x ++ [y]) by unfold strsD; rw [List.map_append]; rfl, ways_put hn, show (keysT bk').map D.str ++ [D.str y] = (keysT (bk' ++ [(y, x)])).map D.str by rw [ek]; simp, ← ek]
            refine hnx' _ ⟨bk' ++ [(y, x)], _, rfl, hG, fun z hz => ?_, ?_, fun i z hi hz w k hw2 => ?_, fun w k hw2 => ?_, fun w k hw2 => hr2 w k (List.mem_cons_of_mem _ hw2)⟩
            · by_cases e : z = y
              · subst e
                show WayOk T d a z (if z = z then _ else _)
                rw [if_pos rfl]
                exact nxt
              · show WayOk T d a z (if z = y then _ else _)
                rw [if_neg e]
                rw [ek] at hz
                rcases List.mem_append.mp hz with hz | hz
                · exact hw' z hz
                · exact absurd (List.mem_singleton.mp hz) e
            · rw [ek, List.getElem?_append_left (List.getElem?_eq_some_iff.mp ex2).1]
              exact ex2
            · have hlt : i < (keysT bk').length := by
                have := (List.getElem?_eq_some_iff.mp ex2).1
                omega
              rw [ek, List.getElem?_append_left hlt] at hz
              rw [ek]
              exact List.mem_append_left _ (hc' i z hi hz w k hw2)
            · rw [ek]
              rcases hr w k hw2 with z | z
              · rcases List.mem_cons.mp z with z | z
                · cases z
                  exact .inr (List.mem_append_right _ (by simp))
                · exact .inl z
              · exact .inr (List.mem_append_left _ z)
        · have hy : y ∈ keysT bk' := Classical.byContradiction fun hn => by
            have c : (!(lookD (waysK (keysT bk') wy') (.inr y)).isSome) = false := c
            rw [ways_none hn] at c
            cases c
          refine hnx' _ ⟨bk', wy', rfl, hB', hw', ex2, hc', fun w k hw2 => ?_, fun w k hw2 => hr2 w k (List.mem_cons_of_mem _ hw2)⟩
          rcases hr w k hw2 with z | z
          · rcases List.mem_cons.mp z with z | z
            · cases z
              exact .inr hy
            · exact .inl z
          · exact .inr z
    · refine hnx _ ⟨bk, wy, rfl, hB, hw, fun i z hi hz y l hy => ?_⟩
      by_cases q : i = t
      · subst q
        have c : ¬ (i : Int) < ((keysT bk).map D.str).length := of_decide_eq_false c
        rw [List.length_map] at c
        have := (List.getElem?_eq_some_iff.mp hz).1
        omega
      · exact hc i z (by omega) hz y l hy
  · simp at hx
    exact absurd hx.1 n
  · have e : x = a := by simpa [keysT] using hx
    subst e
    have := M.d0 x
    have := M.pos x y
    have := (M.mem hy).2.2.1
    omega
  · have e : x = a := by simpa [keysT] using hx
    subst e
    exact way_one M ha
end DL

set_option Elab.async false
set_option linter.all false
set_option maxRecDepth 100000
namespace DL
open PySem PySem.Spec PyProof.Rows L2

/-! ### _law_step, _law_long, _law_far -/
/-- the length of the edge between two, or none -/
def StepOk2 (T : Tr) (a b : Str) : Option Int → Prop
  | none => ∀ l, (b, l) ∉ T.adj a
  | some l => (b, l) ∈ T.adj a
def optD : Option Int → D
  | none => .non
  | some l => .int l
def sp_law_step : SpT := fun ds e q => ∃ T d a b, ds = [treeD T, .str a, .str b] ∧ Met T d ∧ Small T ∧ ∀ o, StepOk2 T a b o → q (optD o)
/-! _law_step: tree 0, first 1, second 2, other 3, length 4 -/
def N_law_step : List Str := ["tree", "first", "second", "other", "length"]
def t_law_step_1 : ST := (sRet (eC .non))
def t_law_step : ST := (sSeq (sForget [3, 4] (sFor (itSeq (eCall sp_law_nearB (aCons (eVar 0) (aCons (eVar 1) aNil)))) (tTup (fits 2 (tsCons (tName 3) (tsCons (tName 4) tsNil)))) (sIf (bCmp fEq (eVar 3) (eVar 2)) (sRet (eVar 4)) sNext) [0, 1, 3, 4]))
  t_law_step_1)
theorem len_law_step : ∀ ds e q, sp_law_step ds e q → ds.length = ["tree", "first", "second"].length := by
  rintro _ e q ⟨T, d, a, b, rfl, _⟩
  rfl
theorem m_law_step : ∀ ds e q, sp_law_step ds e q → t_law_step { nx := fun _ => q .non, rt := q, xe := fun x _ => e x } (startD N_law_step ds) := by
  rintro _ e q ⟨T, d, a, b, rfl, M, hsm, h⟩
  refine ⟨T, a, rfl, hsm, M.loopless, ?_⟩
  refine forR_map nodeD (fun r δ => ∃ x0 x1, δ = [x0, x1, .sh (.str b), .un, .un] ∧ (∀ p ∈ r, p ∈ T.adj a) ∧ ∀ l, (b, l) ∈ T.adj a → (b, l) ∈ r) ?_ ?_ (T.near a) _ ⟨_, _, rfl, fun p hp => Tr.mem_near.mp hp, fun l hl => Tr.mem_near.mpr hl⟩
  · rintro δ ⟨x0, x1, rfl, _, z⟩
    exact ⟨rfl, h none fun l hl => nomatch z l hl⟩
  · rintro ⟨y, k⟩ r δ nx ⟨x0, x1, rfl, hin, hm⟩ hnx
    refine ⟨rfl, ite2D (fun c => ?_) fun c => ?_⟩
    · have c : y = b := of_decide_eq_true c
      subst c
      exact ⟨rfl, h (some k) (hin (y, k) (by simp))⟩
    · have c : ¬ y = b := of_decide_eq_false c
      refine hnx _ ⟨.un, .un, rfl, fun p hp => hin p (List.mem_cons_of_mem _ hp), fun l hl => ?_⟩
      rcases List.mem_cons.mp (hm l hl) with z | z
      · exact absurd (congrArg Prod.fst z).symm c
      · exact z
theorem Met.step_eq {T : Tr} {d : Str → Str → Int} (M : Met T d) {a b : Str} {k l : Int} (h : (b, k) ∈ T.adj a) (g : (b, l) ∈ T.adj a) : k = l := by
  have ha := (M.mem h).1
  have z1 := M.step ha h
  have z2 := M.step ha g
  have := M.d0 a
  have := M.pos a b
  have := (M.mem h).2.2.1
  have := (M.mem g).2.2.1
  omega
theorem StepOk2.of {T : Tr} {d : Str → Str → Int} (M : Met T d) {a b : Str} {l : Int} (h : (b, l) ∈ T.adj a) {o : Option Int} (g : StepOk2 T a b o) : o = some l := by
  cases o with
  | none => exact absurd h (g l)
  | some k => rw [M.step_eq g h]
theorem StepOk2.no {T : Tr} {a b : Str} (h : ∀ l, (b, l) ∉ T.adj a) {o : Option Int} (g : StepOk2 T a b o) : o = none := by
  cases o with
  | none => rfl
  | some k => exact absurd g (h k)
/-- the lengths along a walk -/
def Steps (T : Tr) (r : List Str) (ls : List Int) : Prop := ls.length = r.length - 1 ∧ ∀ j x y, r[j]? = some x → r[j + 1]? = some y → ∃ l, ls[j]? = some l ∧ (y, l) ∈ T.adj x
def sp_law_long : SpT := fun ds e q => ∃ T d r ls, ds = [treeD T, strsD r] ∧ Met T d ∧ Small T ∧ (1 ≤ r.length ∧ r.length ≤ 1000) ∧ Steps T r ls ∧ q (.int ls.sum)
/-! _law_long: tree 0, way 1, j 2 -/
def N_law_long : List Str := ["tree", "way", "j"]
def t_law_long : ST := (sRet (eCB fSum (aCons (eLc (itR1 (aCons (eOp fSub (eCB fLen (aCons (eVar 1) aNil)) (eC (.int 1))) aNil)) [2] (tName 2) bYes (eCall sp_law_step (aCons (eVar 0) (aCons (eOp fIx (eVar 1) (eVar 2)) (aCons (eOp fIx (eVar 1) (eOp fAdd (eVar 2) (eC (.int 1)))) aNil))))) aNil)))
theorem len_law_long : ∀ ds e q, sp_law_long ds e q → ds.length = ["tree", "way"].length := by
  rintro _ e q ⟨T, d, r, ls, rfl, _⟩
  rfl
theorem allI_mapN {α : Type} (f : α → Int) : ∀ l : List α, allI (l.map fun a => D.int (f a)) = some (l.map f)
  | [] => rfl
  | a :: l => by
    rw [List.map_cons, List.map_cons, allI, allI_mapN f l] <;> rfl
theorem m_law_long : ∀ ds e q, sp_law_long ds e q → t_law_long { nx := fun _ => q .non, rt := q, xe := fun x _ => e x } (startD N_law_long ds) := by
  rintro _ e q ⟨T, d, r, ls, rfl, M, hsm, hr, hS, h⟩
  have lr : ((r.map D.str).length : Int) = r.length := by rw [List.length_map]
  have en : (((r.map D.str).length : Int) - 1).toNat = r.length - 1 := by rw [lr]; omega
  refine ⟨⟨by rw [lr]; omega, by rw [lr]; omega⟩, ⟨⟨trivial, trivial⟩, ?_⟩, ?_⟩
  · rw [rangeD, List.length_map, List.length_range, en]
    exact line1000 (by omega)
  rw [en]
  have er : rangeD 0 (r.length - 1) = (List.range (r.length - 1)).map fun (i : Nat) => D.int (i : Int) := by
    unfold rangeD
    exact List.map_congr_left fun i _ => by rw [Int.zero_add]
  rw [er]
  refine lcR_all (fun (i : Nat) => D.int (i : Int)) (fun i => .int ((ls[i]?).getD 0)) (List.range (r.length - 1)) (fun i hi A hA => ?_) _ ?_
  · have hi := List.mem_range.mp hi
    obtain ⟨x, ex⟩ := at_lt (ns := r) (j := i) (by omega)
    obtain ⟨y, ey⟩ := at_lt (ns := r) (j := i + 1) (by omega)
    obtain ⟨l, el, hl⟩ := hS.2 i x y ex ey
    rw [el] at hA
    refine ⟨.str x, at_map D.str ex, .str y, at_map D.str ey, T, d, x, y, rfl, M, hsm, fun o ho => ?_⟩
    rw [ho.of M hl]
    exact hA
  · refine ⟨_, allI_mapN (fun i => (ls[i]?).getD 0) _, ?_⟩
    have e2 : (List.range (r.length - 1)).map (fun i => (ls[i]?).getD 0) = ls := by
      rw [← hS.1]
      refine List.ext_getElem (by rw [List.length_map, List.length_range]) fun i h1 h2 => ?_
      rw [List.getElem_map, List.getElem_range, List.getElem?_eq_getElem h2] <;> rfl
    rw [e2]
    exact ⟨rfl, h⟩
/-- a way is a walk, and so long as its end is away -/
theorem way_steps {T : Tr} {d : Str → Str → Int} (M : Met T d) {a b : Str} {r : List Str} (hW : WayOk T d a b r) : ∃ ls, Steps T r ls ∧ ls.sum = d a b := by
  have rpos : 0 < r.length := (List.getElem?_eq_some_iff.mp hW.hd).1
  let f : Nat → Int := fun j => d a ((r[j]?).getD a)
  refine ⟨(List.range (r.length - 1)).map fun i => f (i + 1) - f i, ⟨by rw [List.length_map, List.length_range], fun i x y ex ey => ?_⟩, ?_⟩
  · obtain ⟨l, hl, el⟩ := hW.chn i x y ex ey
    have hi := (List.getElem?_eq_some_iff.mp ey).1
    refine ⟨l, ?_, M.sym hl⟩
    rw [List.getElem?_map, List.getElem?_range (by omega)]
    show some (d a ((r[i + 1]?).getD a) - d a ((r[i]?).getD a)) = some l
    rw [ex, ey]
    show some (d a y - d a x) = some l
    congr 1
    omega
  · have tel : ∀ n, ((List.range n).map fun i => f (i + 1) - f i).sum = f n - f 0 := fun n => by
      induction n with
      | zero => simp
      | succ n ih => rw [List.range_succ, List.map_append, List.sum_append, ih]; simp; omega
    have f0 : f 0 = 0 := by
      show d a ((r[0]?).getD a) = 0
      rw [hW.hd]
      exact M.d0 a
    have fn : f (r.length - 1) = d a b := by
      have := hW.lst
      rw [List.getLast?_eq_getElem?] at this
      show d a ((r[r.length - 1]?).getD a) = d a b
      rw [this] <;> rfl
    rw [tel, fn, f0, Int.sub_zero]
def sp_law_farB : SpT := fun ds e q => ∃ T d a b, ds = [treeD T, .str a, .str b] ∧ LTree T d ∧ a ∈ T.names ∧ b ∈ T.names ∧ q (.int (d a b))
/-! _law_far: tree 0, first 1, second 2 -/
def N_law_farB : List Str := ["tree", "first", "second"]
def t_law_farB : ST := (sRet (eCall sp_law_long (aCons (eVar 0) (aCons (eOp fIx (eCallL sp_law_ways (aCons (eVar 0) (aCons (eVar 1) aNil))) (eVar 2)) aNil))))
theorem len_law_farB : ∀ ds e q, sp_law_farB ds e q → ds.length = ["tree", "first", "second"].length := by
  rintro _ e q ⟨T, d, a, b, rfl, _⟩
  rfl
theorem treeD_imm (T : Tr) : D.imm (treeD T) = true := by
  show immA [.tup _, .tup _] = true
  unfold immA immA immA D.imm
  rw [immA_map (fun _ => rfl), immA_map (fun _ => rfl)] <;> rfl
theorem m_law_farB : ∀ ds e q, sp_law_farB ds e q → t_law_farB { nx := fun _ => q .non, rt := q, xe := fun x _ => e x } (startD N_law_farB ds) := by
  rintro _ e q ⟨T, d, a, b, rfl, L, ha, hb, h⟩
  have M := L.met
  refine ⟨?_, T, d, a, rfl, M, L.small, ha, fun ks wy _ hk hw => ?_⟩
  · show (D.imm (treeD T) && (true && true)) = true
    rw [treeD_imm]
    rfl
  · have hW := hw b hb
    obtain ⟨ls, hS, es⟩ := way_steps M hW
    have rpos : 0 < (wy b).length := (List.getElem?_eq_some_iff.mp hW.hd).1
    have rn := hW.path.len
    have n1000 := L.small.1
    refine ⟨strsD (wy b), ways_look ((hk b).mpr hb), T, d, wy b, ls, rfl, M, L.small, ⟨rpos, by omega⟩, hS, rfl, ?_⟩
    rw [es]
    exact h
/-! ### _law_side, _law_needed -/
def offB (d : Str → Str → Int) (a b z : Str) : Bool := !decide (d a b + d b z = d a z)
def sp_law_side : SpT := fun ds e q => ∃ T d a b, ds = [treeD T, .str a, .str b] ∧ Met T d ∧ Small T ∧ a ∈ T.names ∧ b ∈ T.names ∧ q (strsD (T.names.filter (offB d a b)))
/-! _law_side: tree 0, first 1, second 2, ways 3, name 4 -/
def N_law_side : List Str := ["tree", "first", "second", "ways", "name"]
def t_law_side : ST := (sSeq (sSet 3 (eCallL sp_law_ways (aCons (eVar 0) (aCons (eVar 1) aNil))))
  (sRet (eLc (itSeq (eCall sp_law_names (aCons (eVar 0) aNil))) [4] (tName 4) (bCmp (fIn true) (eVar 2) (eOp fIx (eVar 3) (eVar 4))) (eVar 4))))
theorem len_law_side : ∀ ds e q, sp_law_side ds e q → ds.length = ["tree", "first", "second"].length := by
  rintro _ e q ⟨T, d, a, b, rfl, _⟩
  rfl
theorem m_law_side : ∀ ds e q, sp_law_side ds e q → t_law_side { nx := fun _ => q .non, rt := q, xe := fun x _ => e x } (startD N_law_side ds) := by
  rintro _ e q ⟨T, d, a, b, rfl, M, hsm, ha, hb, h⟩
  refine ⟨?_, T, d, a, rfl, M, hsm, ha, fun ks wy _ hk hw => ?_⟩
  · show (D.imm (treeD T) && (true && true)) = true
    rw [treeD_imm]
    rfl
  · have n1000 := hsm.1
    refine ⟨T, rfl, hsm, ⟨⟨trivial, trivial⟩, by rw [List.length_map, Tr.names, List.length_map]; exact line1000 n1000⟩, ?_⟩
    refine lcR_flt D.str (offB d a b) D.str T.names (fun z hz A B g1 g2 => ?_) _ ⟨immA_map (fun _ => rfl) _, h⟩
    refine ⟨strsD (wy z), ways_look ((hk z).mpr hz), ⟨rfl, flat_strs _⟩, ?_⟩
    show if (!inD (.str b) ((wy z).map D.str)) = true then _ else _
    rw [inD_strs]
    have e : decide (b ∈ wy z) = decide (d a b + d b z = d a z) := by
      refine decide_eq_decide.mpr (((hw z hz).path.mem b).trans ⟨fun x => x.2, fun x => ⟨hb, x⟩⟩)
    rw [e]
    exact ite2D g1 g2
/-! ### _law_some: some of the names -/
def sp_law_some : SpT := fun ds e q => ∃ ns k names many, ds = [intsD ns, .int k, strsD names, .int many] ∧ 0 ≤ k ∧ (0 ≤ many ∧ many ≤ 12) ∧ names.length ≤ 1000 ∧ names.Nodup ∧ StrsOk names ∧
  ∀ rs, rs.length = (if (names.length : Int) < many then names.length else many.toNat) → rs.Nodup → (∀ x ∈ rs, x ∈ names) → q (strsD rs)
/-! _law_some: script 0, k 1, names 2, many 3, digits 4, left 5, found 6, j 7, name 8 -/
def N_law_some : List Str := ["script", "k", "names", "many", "digits", "left", "found", "j", "name"]
def t_law_some_1 : ST := (sRet (eVar 6))
def t_law_some : ST := (sSeq (sSet 4 (eCall sp_law_drawB (aCons (eVar 0) (aCons (eVar 1) (aCons (eRep (eLst (iCons (eC (.int 12)) aNil)) (eC (.int 12))) aNil)))))
  (sSeq (sSet 5 (eCB fList (aCons (eVar 2) aNil)))
  (sSeq (sSet 6 (eLst aNil))
  (sSeq (sForget [0, 1, 7] (sFor (itR1 (aCons (eCB fMinX (aCons (eVar 3) (aCons (eCB fLen (aCons (eVar 2) aNil)) aNil))) aNil)) (tName 7) (sSeq (sApp 6 (eOp fIx (eVar 5) (eOp (fI (fun _ j => 0 < j) (· % ·)) (eOp fIx (eVar 4) (eVar 7)) (eCB fLen (aCons (eVar 5) aNil)))))
  (sFrz 5 (sSet 5 (eLc (itSeq (eVar 5)) [8] (tName 8) (bCmp fNe (eVar 8) (eOp fIx (eVar 6) (eNeg (eC (.int 1))))) (eVar 8))))) [0, 1, 2, 3, 7]))
  t_law_some_1))))
theorem len_law_some : ∀ ds e q, sp_law_some ds e q → ds.length = ["script", "k", "names", "many"].length := by
  rintro _ e q ⟨ns, k, names, many, rfl, _⟩
  rfl
def szM : List Int := List.replicate 12 12
theorem szM_at : ∀ j : Fin 12, szM[j.val]? = some 12 := by decide +kernel
theorem drop_one {l : List Str} {x : Str} (hn : l.Nodup) (h : x ∈ l) : (l.filter fun y => !decide (y = x)).length + 1 = l.length := by
  have e : (l.filter fun y => !decide (y = x)) = l.erase x := by
    rw [hn.erase_eq_filter]
    exact List.filter_congr fun y _ => by
      by_cases c : y = x <;> simp [c, bne]
  rw [e, List.length_erase_of_mem h]
  have : 0 < l.length := List.length_pos_of_mem h
  omega
theorem m_law_some : ∀ ds e q, sp_law_some ds e q → t_law_some { nx := fun _ => q .non, rt := q, xe := fun x _ => e x } (startD N_law_some ds) := by
  rintro _ e q ⟨ns, k, names, many, rfl, hk, hm, hl, hnd, hok, h⟩
  refine ⟨(show 1 ≤ sizeLine by decide), ⟨by decide, by decide, by decide⟩, ns, k, szM, rfl, hk, by decide, by decide +kernel, fun dg hb => ?_⟩
  have ln : ((names.map D.str).length : Int) = names.length := by rw [List.length_map]
  let m : Nat := if (names.length : Int) < many then names.length else many.toNat
  have em : (if ((names.map D.str).length : Int) < many then ((names.map D.str).length : Int) else many) = (m : Int) := by
    show _ = ((if (names.length : Int) < many then names.length else many.toNat : Nat) : Int)
    rw [ln]
    split
    · rfl
    · omega
  have m12 : m ≤ 12 ∧ m ≤ names.length := by
    show (if (names.length : Int) < many then names.length else many.toNat) ≤ 12 ∧ (if (names.length : Int) < many then names.length else many.toNat) ≤ names.length
    split <;> omega
  refine ⟨Nat.zero_le _, ?_⟩
  show (-(2 ^ 62) ≤ (if ((names.map D.str).length : Int) < many then ((names.map D.str).length : Int) else many) ∧ (if ((names.map D.str).length : Int) < many then ((names.map D.str).length : Int) else many) < 2 ^ 62) ∧
    forR _ _ _ _ _ (rangeD 0 (if ((names.map D.str).length : Int) < many then ((names.map D.str).length : Int) else many).toNat) _
  rw [em, Int.toNat_natCast]
  refine ⟨⟨by omega, by omega⟩, ?_⟩
  refine forR_upto (n := m) (fun i δ => ∃ x2 x3 left found, δ = [.un, .un, x2, x3, .fr (intsD dg), .ow (strsD left), .ow (strsD found), .un, .un] ∧ found.length = i ∧ found.Nodup ∧ (∀ x ∈ found, x ∈ names) ∧ left.Nodup ∧ (∀ x ∈ left, x ∈ names ∧ x ∉ found) ∧ left.length + i = names.length) ?_ ?_ _ ⟨_, _, names, [], rfl, rfl, List.nodup_nil, (fun _ z => nomatch z), hnd, fun x hx => ⟨hx, List.not_mem_nil⟩, rfl⟩
  · rintro δ ⟨x2, x3, left, found, rfl, fl, fn, fs, _⟩
    exact ⟨immA_map (fun _ => rfl) _, h found fl fn fs⟩
  · rintro j δ nx hj ⟨x2, x3, left, found, rfl, fl, fn, fs, lnd, ls, ll⟩ hnx
    obtain ⟨a, ea, a0, _⟩ := hb.get (szM_at ⟨j, by omega⟩)
    have ea' : atI (dg.map D.int) (j : Int) = some (.int a) := atI_int ea
    have lp : (0 : Int) < ((left.map D.str).length : Nat) := by rw [List.length_map]; omega
    have lL : ((left.map D.str).length : Int) = left.length := by rw [List.length_map]
    have m1 := Int.emod_nonneg a (show (left.length : Int) ≠ 0 by omega)
    have m2 := Int.emod_lt_of_pos a (show (0 : Int) < left.length by omega)
    obtain ⟨p, hp⟩ : ∃ p : Nat, a % (left.length : Int) = (p : Int) := ⟨(a % (left.length : Int)).toNat, by omega⟩
    obtain ⟨x, ex⟩ := at_lt (ns := left) (j := p) (by omega)
    have xl : x ∈ left := List.mem_of_getElem? ex
    have ex' : atI (left.map D.str) (a % ((left.map D.str).length : Int)) = some (.str x) := by
      rw [lL, hp]
      exact at_map D.str ex
    refine ⟨.int a, ea', lp, .str x, ex', by rw [List.length_map]; exact lt1000 (by omega), ?_⟩
    refine ⟨⟨⟨trivial, trivial⟩, by rw [List.length_map]; exact line1000 (by omega)⟩, ?_⟩
    have al : atI (found.map D.str ++ [.str x]) (-1) = some (.str x) := atI_last _ _
    refine lcR_flt D.str (fun y => !decide (y = x)) D.str left (fun y hy A B g1 g2 => ⟨.str x, al, ite2D g1 g2⟩) _ ?_
    refine hnx _ ⟨.un, .un, left.filter fun y => !decide (y = x), found ++ [x], ?_, ?_, ?_, ?_, lnd.filter _, ?_, ?_⟩
    · unfold strsD
      rw [List.map_append]
      rfl
    · rw [List.length_append, List.length_singleton, fl]
    · exact List.nodup_append.mpr ⟨fn, by simp, fun u hu v hv e => (ls x xl).2 (by rw [← List.mem_singleton.mp hv, ← e]; exact hu)⟩
    · intro u hu
      rcases List.mem_append.mp hu with hu | hu
      · exact fs u hu
      · rw [List.mem_singleton.mp hu]
        exact (ls x xl).1
    · intro u hu
      obtain ⟨u1, u2⟩ := List.mem_filter.mp hu
      refine ⟨(ls u u1).1, fun z => ?_⟩
      rcases List.mem_append.mp z with z | z
      · exact (ls u u1).2 z
      · rw [List.mem_singleton.mp z, decide_eq_true rfl] at u2
        cases u2
    · have := drop_one lnd xl
      omega
end DL

set_option Elab.async false
set_option linter.all false
set_option maxRecDepth 100000
/-! None in a list of ints, texts and None -/
namespace DL
open PySem PySem.Spec PyProof.Rows L2
def D.flo : D → Bool
  | .int _ => true
  | .str _ => true
  | .non => true
  | _ => false
def eqO : D → D → Bool
  | .non, .non => true
  | .int i, .int j => decide (i = j)
  | .str i, .str j => decide (i = j)
  | _, _ => false
def inO (x : D) (ds : List D) : Bool := ds.any fun d => eqO d x
def fInO (neg : Bool) : F2b := fun x y q => match y with
  | .lst ds => (x.flo = true ∧ ds.all D.flo = true) ∧ q (if neg = true then !inO x ds else inO x ds)
  | _ => False
section
variable {K : PySem.W.Frag} {H : Hp} {M : Option Hp}
theorem Rep.flo {d : D} {v : V} (f : d.flo = true) (h : Rep K H M d v) : flatV v = true ∧ SRep d v := by
  cases d with
  | int i =>
    cases (show v = .int i from h)
    exact ⟨rfl, rfl⟩
  | str i =>
    cases (show v = .str i from h)
    exact ⟨rfl, rfl⟩
  | non =>
    cases (show v = .non from h)
    exact ⟨rfl, rfl⟩
  | _ => exact absurd (show false = true from f) Bool.false_ne_true
theorem eqO_V {d e : D} {v w : V} (fd : d.flo = true) (fe : e.flo = true) (hd : SRep d v) (he : SRep e w) : eqV v w = eqO d e := by
  cases d with
  | int i =>
    cases (show v = .int i from hd)
    cases e with
    | int j =>
      cases (show w = .int j from he)
      show (i == j) = decide (i = j)
      rw [Bool.beq_eq_decide_eq]
    | str j =>
      cases (show w = .str j from he)
      rfl
    | non =>
      cases (show w = .non from he)
      rfl
    | _ => exact absurd (show false = true from fe) Bool.false_ne_true
  | str i =>
    cases (show v = .str i from hd)
    cases e with
    | int j =>
      cases (show w = .int j from he)
      rfl
    | str j =>
      cases (show w = .str j from he)
      show (i == j) = decide (i = j)
      rw [Bool.beq_eq_decide_eq]
    | non =>
      cases (show w = .non from he)
      rfl
    | _ => exact absurd (show false = true from fe) Bool.false_ne_true
  | non =>
    cases (show v = .non from hd)
    cases e with
    | int j =>
      cases (show w = .int j from he)
      rfl
    | str j =>
      cases (show w = .str j from he)
      rfl
    | non =>
      cases (show w = .non from he)
      rfl
    | _ => exact absurd (show false = true from fe) Bool.false_ne_true
  | _ => exact absurd (show false = true from fd) Bool.false_ne_true
theorem RepA.flo : ∀ {ds : List D} {vs : List V}, ds.all D.flo = true → RepA K H M ds vs → vs.all flatV = true ∧ ∀ x w, x.flo = true → SRep x w → inV w vs = inO x ds
  | [], vs, _, h => by
    cases (show vs = [] from h)
    exact ⟨rfl, fun _ _ _ _ => rfl⟩
  | d :: ds, vs, f, h => by
    obtain ⟨v, r, e, h1, h2⟩ := h
    subst e
    have f' : d.flo = true ∧ ds.all D.flo = true := by simpa using f
    obtain ⟨z1, z2⟩ := Rep.flo f'.1 h1
    obtain ⟨z3, z4⟩ := RepA.flo f'.2 h2
    refine ⟨by rw [List.all_cons, z1, z3] <;> rfl, fun x w fx hx => ?_⟩
    have := z4 x w fx hx
    unfold inV inO at this ⊢
    rw [List.any_cons, List.any_cons, this, eqO_V f'.1 fx z2 hx]
end
theorem snd_inO {X : Cx} (neg : Bool) : Snd2b X.K (rInAll X.K neg) (fInO neg) := by
  intro H Z x y d e q Q s hx hy h ok
  unfold fInO at h
  split at h
  · obtain ⟨p, vs, rfl, s1, q1⟩ := hy
    obtain ⟨f1, f2⟩ := Rep.flo h.1.1 (hx.full s)
    obtain ⟨f3, f4⟩ := RepA.flo h.1.2 q1
    exact .inl ⟨p, vs, rfl, .inl s1, f1, f3, by rw [f4 _ _ h.1.1 f2]; exact ok _ h.2⟩
  · exact h.elim
end DL

set_option Elab.async false
set_option linter.all false
set_option maxRecDepth 100000
namespace DL
open PySem PySem.Spec PyProof.Rows L2

/-! ### needed edges -/
def needB (d : Str → Str → Int) (s : Str) (ws : List Str) (e : Str × Str × Int) : Bool := ws.any fun w => !decide (offB d e.1 e.2.1 w = offB d e.1 e.2.1 s)
def endsD (e : Str × Str × Int) : D := .tup [.str e.1, .str e.2.1]
def endsK (e : Str × Str × Int) : D := .ktp [.inr e.1, .inr e.2.1]
theorem endsK_py : ∀ l : List (Str × Str × Int), pyA (l.map endsK) = pyA (l.map endsD)
  | [] => rfl
  | e :: l => by
    rw [List.map_cons, List.map_cons, pyA, pyA, endsK_py l] <;> rfl
def neededL (T : Tr) (d : Str → Str → Int) (s : Str) (ws : List Str) : List (Str × Str × Int) := T.edges.filter (needB d s ws)
def sp_law_needed : SpT := fun ds e q => ∃ T d s ws, ds = [treeD T, .str s, strsD ws] ∧ LTree T d ∧ s ∈ T.names ∧ ws.length ≤ 12 ∧ (∀ x ∈ ws, x ∈ T.names) ∧ q (.lst ((neededL T d s ws).map endsD))
/-! _law_needed: tree 0, start 1, wanted 2, found 3, first 4, second 5, length 6, near 7, beyond_v 8, name 9 -/
def N_law_needed : List Str := ["tree", "start", "wanted", "found", "first", "second", "length", "near", "beyond_v", "name"]
def t_law_needed_1 : ST := (sRet (eVar 3))
def t_law_needed : ST := (sSeq (sSet 3 (eLst aNil))
  (sSeq (sForget [4, 5, 6, 7, 8] (sFor (itSeq (eOp fIx (eVar 0) (eC (.int 1)))) (tTup (fits 3 (tsCons (tName 4) (tsCons (tName 5) (tsCons (tName 6) tsNil))))) (sSeq (sSet 7 (eCall sp_law_side (aCons (eVar 0) (aCons (eVar 4) (aCons (eVar 5) aNil)))))
  (sSeq (sSet 8 (eLc (itSeq (eVar 2)) [9] (tName 9) (bCmp fNe (eCmp (fIn false) (eVar 9) (eVar 7)) (eCmp (fIn false) (eVar 1) (eVar 7))) (eVar 9)))
  (sIf (bCmp fNe (eVar 8) (eLst aNil)) (sApp 3 (eTup (iCons (eVar 4) (iCons (eVar 5) aNil)))) sNext))) [4, 5, 6, 7, 8]))
  t_law_needed_1))
theorem len_law_needed : ∀ ds e q, sp_law_needed ds e q → ds.length = ["tree", "start", "wanted"].length := by
  rintro _ e q ⟨T, d, s, ws, rfl, _⟩
  rfl
theorem eVar_owK {i : Nat} {e : XQ} {δ : DSt} {q : Tg → D → Prop} {d : D} (h : getS δ i = .ow d) (hq : q .bo d) : eVar i e δ q := by
  unfold eVar
  rw [h]
  exact hq
theorem m_law_needed : ∀ ds e q, sp_law_needed ds e q → t_law_needed { nx := fun _ => q .non, rt := q, xe := fun x _ => e x } (startD N_law_needed ds) := by
  rintro _ e q ⟨T, d, s, ws, rfl, L, hs, wl, hw, h⟩
  have M := L.met
  have n12 : T.names.length ≤ 12 := by
    rw [Tr.names, List.length_map]
    exact L.len.2
  refine ⟨Nat.zero_le _, .tup (T.edges.map edgeD), rfl, ?_⟩
  show forR _ _ _ _ _ (T.edges.map edgeD) _
  refine forR_map edgeD (fun r δ => ∃ done, done ++ r = T.edges ∧ δ = [.sh (treeD T), .sh (.str s), .sh (strsD ws), .ow (.lst ((done.filter (needB d s ws)).map endsD)), .un, .un, .un, .un, .un, .un]) ?_ ?_ _ _ ⟨[], rfl, rfl⟩
  · rintro δ ⟨done, e, rfl⟩
    rw [List.append_nil] at e
    subst e
    exact ⟨immA_map (fun _ => rfl) _, h⟩
  · rintro ⟨a, b, l⟩ r δ nx ⟨done, e, rfl⟩ hnx
    have ee : (a, b, l) ∈ T.edges := by
      rw [← e]
      exact List.mem_append_right _ (by simp)
    have dl : done.length ≤ 12 := by
      have := congrArg List.length e
      rw [List.length_append] at this
      have := L.elen
      omega
    have nab := M.mem (List.mem_filterMap.mpr ⟨(a, b, l), ee, if_pos rfl⟩ : (b, l) ∈ T.adj a)
    refine ⟨rfl, T, d, a, b, rfl, M, L.small, nab.1, nab.2.1, ?_⟩
    refine ⟨⟨⟨trivial, trivial⟩, by rw [List.length_map]; exact line1000 (by omega)⟩, ?_⟩
    have nin : ∀ z ∈ T.names, decide (z ∈ T.names.filter (offB d a b)) = offB d a b z := fun z hz => by
      cases c : offB d a b z with
      | true => exact decide_eq_true (List.mem_filter.mpr ⟨hz, c⟩)
      | false => exact decide_eq_false fun z => by rw [(List.mem_filter.mp z).2] at c; cases c
    refine lcR_flt D.str (fun w => !decide (offB d a b w = offB d a b s)) D.str ws (fun w hw' A B g1 g2 => ?_) _ ?_
    · refine ⟨⟨rfl, flat_strs _⟩, ⟨rfl, flat_strs _⟩, ?_⟩
      show if (!decide (inD (.str w) ((T.names.filter (offB d a b)).map D.str) = inD (.str s) ((T.names.filter (offB d a b)).map D.str))) = true then _ else _
      rw [inD_strs, inD_strs, nin w (hw w hw'), nin s hs]
      exact ite2D g1 g2
    · have any : needB d s ws (a, b, l) = true ↔ ws.filter (fun w => !decide (offB d a b w = offB d a b s)) ≠ [] := by
        unfold needB
        rw [List.any_eq_true]
        constructor
        · rintro ⟨w, h1, h2⟩ z
          exact List.filter_eq_nil_iff.mp z w h1 h2
        · intro z
          obtain ⟨w, hw3⟩ := List.exists_mem_of_ne_nil _ z
          obtain ⟨h1, h2⟩ := List.mem_filter.mp hw3
          exact ⟨w, h1, h2⟩
      have sok : StrsOk (ws.filter fun w => !decide (offB d a b w = offB d a b s)) := fun x hx => nm_strOk (L.nm x (hw x (List.mem_filter.mp hx).1))
      generalize ws.filter (fun w => !decide (offB d a b w = offB d a b s)) = bs at any sok
      have fin : done ++ (a, b, l) :: r = (done ++ [(a, b, l)]) ++ r := by simp
      show sIf (bCmp fNe (eVar 8) (eLst aNil)) (sApp 3 (eTup (iCons (eVar 4) (iCons (eVar 5) aNil)))) sNext _ [.sh (treeD T), .sh (.str s), .sh (strsD ws), .ow (.lst ((done.filter (needB d s ws)).map endsD)), .sh (.str a), .sh (.str b), .sh (.int l), .fr (strsD (T.names.filter (offB d a b))), .ow (strsD bs), .un]
      unfold sIf bCmp
      refine eVar_owK rfl ?_
      refine ⟨Nat.zero_le _, ?_⟩
      have dep := strsD_dep bs
      refine ne_ways (strsD_ok sok) (by rfl) (by omega) (by decide) (fun e1 => ?_) fun e1 => ?_
      · have e1 : bs = [] := List.map_eq_nil_iff.mp (D.lst.inj e1)
        have nb : needB d s ws (a, b, l) = false := Bool.eq_false_iff.mpr fun z => any.mp z e1
        refine itF (hnx _ ⟨done ++ [(a, b, l)], by rw [← fin]; exact e, ?_⟩)
        rw [List.filter_append, List.filter_cons_of_neg (by rw [nb]; exact Bool.false_ne_true), List.filter_nil, List.append_nil]
        rfl
      · have e1 : bs ≠ [] := fun z => e1 (by rw [z]; rfl)
        have nb := any.mpr e1
        refine itT ⟨(show 2 ≤ sizeLine by decide), ?_, hnx _ ⟨done ++ [(a, b, l)], by rw [← fin]; exact e, ?_⟩⟩
        · rw [List.length_map]
          exact lt1000 (Nat.le_trans (List.length_filter_le _ _) (by omega))
        · rw [List.filter_append, List.filter_cons_of_pos nb, List.filter_nil, List.map_append]
          rfl
/-! ### walks -/
def IsWalk (T : Tr) (ws : List Str) (n : Int) : Prop := ws ≠ [] ∧ (∀ x ∈ ws, x ∈ T.names) ∧ ∃ ls, Steps T ws ls ∧ ls.sum = n
def WalkO (T : Tr) (ws : List Str) : Option Int → Prop
  | none => ∀ n, ¬ IsWalk T ws n
  | some n => IsWalk T ws n
def sp_needed : SpT := fun ds e q => ∃ T d s ws, ds = [treeD T, .str s, strsD ws] ∧ LTree T d ∧ s ∈ T.names ∧ ws.length ≤ 12 ∧ ws.Nodup ∧ (∀ x ∈ ws, x ∈ T.names) ∧ q (.lst ((neededL T d s ws).map endsK))
def sp_walk_length : SpT := fun ds e q => ∃ T d ws, ds = [treeD T, strsD ws] ∧ LTree T d ∧ ws.length ≤ 100 ∧ StrsOk ws ∧ ∀ o, WalkO T ws o → q (optD o)
theorem Steps.uniq {T : Tr} {d : Str → Str → Int} (M : Met T d) {r : List Str} {ls ms : List Int} (h : Steps T r ls) (g : Steps T r ms) : ls = ms := by
  refine List.ext_getElem (by rw [h.1, g.1]) fun i h1 h2 => ?_
  have hl := h.1
  obtain ⟨x, ex⟩ := at_lt (ns := r) (j := i) (by omega)
  obtain ⟨y, ey⟩ := at_lt (ns := r) (j := i + 1) (by omega)
  obtain ⟨l, el, a1⟩ := h.2 i x y ex ey
  obtain ⟨m, em, a2⟩ := g.2 i x y ex ey
  rw [List.getElem?_eq_getElem h1] at el
  rw [List.getElem?_eq_getElem h2] at em
  cases el
  cases em
  exact M.step_eq a1 a2
theorem IsWalk.uniq {T : Tr} {d : Str → Str → Int} (M : Met T d) {r : List Str} {m n : Int} (h : IsWalk T r m) (g : IsWalk T r n) : m = n := by
  obtain ⟨_, _, ls, h1, h2⟩ := h
  obtain ⟨_, _, ms, g1, g2⟩ := g
  rw [← h2, ← g2, h1.uniq M g1]
theorem WalkO.of {T : Tr} {d : Str → Str → Int} (M : Met T d) {r : List Str} {n : Int} (h : IsWalk T r n) {o : Option Int} (g : WalkO T r o) : o = some n := by
  cases o with
  | none => exact absurd h (g n)
  | some m => rw [IsWalk.uniq M g h]
theorem WalkO.no {T : Tr} {r : List Str} (h : ∀ n, ¬ IsWalk T r n) {o : Option Int} (g : WalkO T r o) : o = none := by
  cases o with
  | none => rfl
  | some m => exact absurd g (h m)
theorem Steps.snoc {T : Tr} {r : List Str} {ls : List Int} {x y : Str} {l : Int} (h : Steps T r ls) (hx : r.getLast? = some x) (hl : (y, l) ∈ T.adj x) : Steps T (r ++ [y]) (ls ++ [l]) := by
  have rp : 0 < r.length := by
    cases r with
    | nil => cases hx
    | cons a r => exact Nat.succ_pos _
  have ll := h.1
  refine ⟨by rw [List.length_append, List.length_append, List.length_singleton, List.length_singleton]; omega, fun j u v e1 e2 => ?_⟩
  rw [List.getElem?_append] at e2
  split at e2
  · rename_i hj
    rw [List.getElem?_append_left (by omega)] at e1
    obtain ⟨k, ek, hk⟩ := h.2 j u v e1 e2
    exact ⟨k, by rw [List.getElem?_append_left (by omega)]; exact ek, hk⟩
  · rename_i hj
    have hj2 := (List.getElem?_eq_some_iff.mp e2).1
    rw [List.length_singleton] at hj2
    have ej : j + 1 = r.length := by omega
    have : y = v := by
      rw [ej, Nat.sub_self] at e2
      simpa using e2
    subst this
    rw [List.getElem?_append_left (by omega)] at e1
    rw [List.getLast?_eq_getElem?, show r.length - 1 = j by omega, e1] at hx
    cases hx
    refine ⟨l, ?_, hl⟩
    rw [List.getElem?_append_right (by omega), show j - ls.length = 0 by omega]
    rfl
theorem steps_one (T : Tr) (x : Str) : Steps T [x] [] := ⟨rfl, fun j u v _ e2 => by simp at e2⟩
end DL

set_option Elab.async false
set_option linter.all false
set_option maxRecDepth 100000
namespace DL
open PySem PySem.Spec PyProof.Rows L2
/-! ### are_nodes: of a list or a tuple of texts -/
/-! are_nodes: some_tree 0, names 1, known 2, name 3 -/
def N_are_nodes : List Str := ["some_tree", "names", "known", "name"]
def t_are_nodes : ST := (sSeq (sSet 2 (eCall sp_names_of (aCons (eVar 0) aNil)))
  (sRet (eCB fAll (aCons (eLc (itSeq (eVar 1)) [3] (tName 3) bYes (eCmp (fIn false) (eVar 3) (eVar 2))) aNil))))
def sp_are_nodes : SpT := fun ds e q => ∃ (T : Tr) (xs : List Str) (l : D), ds = [treeD T, l] ∧ (l = .lst (xs.map D.str) ∨ l = .tup (xs.map D.str)) ∧ Small T ∧ xs.length ≤ 1000 ∧ q (.bl (decide (∀ x ∈ xs, x ∈ T.names)))
theorem len_are_nodes : ∀ ds e q, sp_are_nodes ds e q → ds.length = ["some_tree", "names"].length := by
  rintro _ e q ⟨T, xs, l, rfl, _⟩
  rfl
theorem all_decide (p : Str → Prop) [DecidablePred p] : ∀ xs : List Str, (xs.map fun x => decide (p x)).all id = decide (∀ x ∈ xs, p x)
  | [] => by simp
  | x :: xs => by
    rw [List.map_cons, List.all_cons, all_decide p xs]
    by_cases h : p x
    · simp [h]
    · simp [h]
theorem m_are_nodes : ∀ ds e q, sp_are_nodes ds e q → t_are_nodes { nx := fun _ => q .non, rt := q, xe := fun x _ => e x } (startD N_are_nodes ds) := by
  rintro _ e q ⟨T, xs, l, rfl, hl, hs, hx, h⟩
  refine ⟨T, rfl, hs, ?_⟩
  have go : (noOw [3] [Sl.sh (treeD T), .sh l, .fr (strsD T.names), .un] ∧ (xs.map D.str).length ≤ sizeLine) ∧ lcR .sh (tName 3) bYes (eCmp (fIn false) (eVar 3) (eVar 2)) [.sh (treeD T), .sh l, .fr (strsD T.names), .un] (xs.map D.str) fun ys => fAll [.lst ys] fun g d => retTg g d = true ∧ q d := by
    refine ⟨⟨⟨trivial, trivial⟩, by rw [List.length_map]; exact line1000 hx⟩, ?_⟩
    refine lcR_all D.str (fun x => .bl (decide (x ∈ T.names))) xs (fun x _ A hA => ?_) _ ?_
    · refine ⟨⟨rfl, flat_strs _⟩, ?_⟩
      show A (.bl (inD (.str x) (T.names.map .str)))
      rw [inD_strs]
      exact hA
    · refine ⟨_, allB_map (fun x => decide (x ∈ T.names)) xs, rfl, ?_⟩
      show q (.bl ((xs.map fun x => decide (x ∈ T.names)).all id))
      rw [all_decide]
      exact h
  rcases hl with rfl | rfl
  · exact go
  · exact go
end DL

set_option Elab.async false
set_option linter.all false
set_option maxRecDepth 100000
/-! dict comprehensions whose keys are tuples of ints and texts -/
namespace DL
open PySem PySem.Spec PyProof.Rows L2
/-- a tuple's entry is stored into the dict that is being made -/
theorem keep_dT {X : Cx} {pins : List (Addr × Obj)} {σ : St} {H : Hp} {s : Shared} {E : Value → Shared → Prop} {p b : Addr} {rows : List (List Key × V)} {ks : List Key} {v : V} {r : Value} {Q : Unit → Shared → Prop}
    (hu : X.A.units + 1 < cLine) (I : Inv X pins σ H s) (at_ : H p = some (.dT rows)) (key : H b = some (.tup (ks.map kV))) (few : rows.length < sizeLine) (rv : RelV v r)
    (go : ∀ s', Inv X pins σ (upd H p (.dT (putK rows ks v))) s' → Q () s') : wpAny (model X.prog X.w) X.A (dictSet p (.ref b) r) Q E s := by
  obtain ⟨small, ns, xs, rel, dd⟩ := dt_of I.hok at_
  have lx : xs.length ≤ sizeLine := Nat.le_trans (Nat.le_of_eq (Paired.length rel).symm) small
  have more : (putK rows ks v).length ≤ sizeLine := Nat.le_trans (length_putK rows ks v) few
  refine wpAny_dictSet_heap (hsz := lx) (show X.A.units < cLine by omega) (key_of I.hok key) dd fun h2 dd2 but => go _ ?_
  obtain ⟨q, es, ep, q1, q2, q3, q4, _, q5⟩ := dd2
  have new : ObjOk X.prog X.w (upd H p (.dT (putK rows ks v))) h2 p (.dT (putK rows ks v)) := by
    refine ⟨more, ns, _, (rel.put ks key rv).keeps fun c ys ec => ?_, q, es, ep, q1, q2, q3, q4, q5⟩
    exact (upd_ne (ne_of ec at_ (fun z => nomatch z))).trans ec
  exact d_write I (by rw [at_]; trivial) but ⟨q, q1⟩ new
section
variable {X : Cx}
/-- p: the new dict -/
def tDcT (wi : TI) (g : TG) (tt : TT) (tk tv : TE) (vs : List Nat) : TE := fun σ H Q => wi σ H fun J H1 => ∀ p, H1 p = none → ∃ W : Nat → Nat → Hp → Prop, (∃ m, W 0 m (upd H1 p (.dT []))) ∧ ∀ i m H, W i m H →
  (J.stop i H ∧ Q (.ref p) H) ∨ J.go i H ∧ ∃ Nx : Hp → Prop, (∀ H', Nx H' → ∃ m', m' < m ∧ W (i + 1) m' H') ∧ ∀ x H', J.yld i H x H' → g x (wipe σ vs) H' fun σ2 H2 => wipe σ2 vs = wipe σ vs ∧ tt σ2 H2 fun b H3 =>
    if b = true then tk σ2 H3 fun y H4 => tv σ2 H4 fun z H5 => ∃ rows ks b, y = .ref b ∧ H5 b = some (.tup (ks.map kV)) ∧ H5 p = some (.dT rows) ∧ rows.length < sizeLine ∧ Nx (upd H5 p (.dT (putK rows ks z))) else Nx H3
/-- for every block of the comprehension -/
abbrev AllBlk (X : Cx) (scope : Scope) (P : Cx → Prop) : Prop := ∀ (s : Shared) (H : Hp) (C : Addr) (cl : List (Str × Addr)) (fp : List Addr), P (X.blk s H scope (compEnvC scope cl C X.env) fp)
variable {kx vx tg iter : Expr} {ifs : List Expr} {scope : Scope} {own : List (Str × Nat)} {pos pos' : Pos} {wi : TI} {g : TG} {tt : TT} {tk tv : TE}
theorem dcT_run {pins : List (Addr × Obj)} {s : Shared} {σ : St} {H : Hp} {Q : VK} {use : Option (Value → Sem Unit)} {Qf : Value → Shared → Prop} (hu : X.A.units + 1 < cLine) (hc : X.calm = true) (hN : X.N.Nodup) (I : Inv X pins σ H s)
    (hi : PI X tg iter wi) (ok : BlkOk X.N X.env.scope scope own) (hg : AllBlk X scope fun Y => PG Y tg g) (ht : AllBlk X scope fun Y => PTs Y ifs tt) (hk : AllBlk X scope fun Y => PE Y kx tk) (hv : AllBlk X scope fun Y => PE Y vx tv)
    (hs : ∀ x, foldedSetIterable iter X.env x = pure x) (h : tDcT wi g tt tk tv (own.map (·.2)) σ H Q)
    (out : ∀ p C s' m H', Inv X pins σ H' s' → Q (.ref p) H' → s'.heap.Ns C m → FpOk X pins H' C → compPost (model X.prog X.w) X.A X.xe use Qf (.ref p) C (.ok .next) s') :
    wpAny (model X.prog X.w) X.A (comprehension (.DictComp kx vx [⟨tg, iter, ifs, 0⟩] scope pos) scope X.env pos' newDict false (eval iter X.env) use) Qf X.xe s := by
  have cells : ∀ y ∈ scope.names, y.2 = .free → ∃ c, X.env.cells.lookup y.1 = some c := fun y hy e => (ok.free y hy e).elim (fun k => I.ok.has _ (.inl k)) fun k => I.ok.has _ (.inr k)
  refine wpAny_comprehension_free (use := use) rfl hs (closure_ok cells) ok.kind (fun y hy e => by rw [ok.uniq y hy, e]) (thn (hi.run pins s σ H _ I h) fun xv s1 hx => thn hx fun itv s2 i2 => ?_)
  obtain ⟨it, fp, tn, J, H2, rfl, I2, T, start, foot, q⟩ := i2
  refine wpAny_newObj_type (newEnv_comp ?_)
  generalize ep : s2.heap.objs.size = p
  have np : H2 p = none := I2.hok.fresh (Nat.le_of_eq ep)
  obtain ⟨W, ⟨m0, w0⟩, turn⟩ := q p np
  generalize e3 : ({ s2 with heap := s2.heap.push { cls := .type "dict", data := .dict #[] } } : Shared) = s3
  have h3 : s3.heap = s2.heap.push { cls := .type "dict", data := .dict #[] } := by rw [← e3]
  have I3 : Inv X pins σ (upd H2 p (.dT [])) s3 := by
    subst e3
    subst ep
    exact I2.laid (t' := s2.toks) (fun b o z => Heap.get?_push_of_some _ z) (Nat.le_refl _) (dt_empty s2.heap I2.big)
  have below : ∀ b ∈ fp, b < s2.heap.objs.size := fun b hb => let ⟨_, z, _⟩ := T.obj _ _ start b hb; Heap.lt_size z
  have foot3 : ∀ b ∈ fp, FpOk X pins (upd H2 p (.dT [])) b ∧ b < s3.heap.objs.size := fun b hb => by
    have lt := below b hb
    have ne : b ≠ p := by rw [← ep]; exact Nat.ne_of_lt lt
    exact ⟨⟨(upd_ne ne).trans (foot b hb).1, (foot b hb).2⟩, by rw [h3, Heap.size_push]; exact Nat.lt_succ_of_lt lt⟩
  have start3 : tn 0 s3.heap := T.keep _ _ _ start fun b _ o z => by rw [h3]; exact Heap.get?_push_of_some _ z
  have I4 := block_start I3 ok hN foot3
  -- the parts, in the block's context
  have bg := hg s3 (upd H2 p (.dT [])) s3.heap.objs.size (cellsFrom (s3.heap.objs.size + 1) scope.names (cloFrom X.env.cells scope.names [])) fp
  have bt := ht s3 (upd H2 p (.dT [])) s3.heap.objs.size (cellsFrom (s3.heap.objs.size + 1) scope.names (cloFrom X.env.cells scope.names [])) fp
  have bk := hk s3 (upd H2 p (.dT [])) s3.heap.objs.size (cellsFrom (s3.heap.objs.size + 1) scope.names (cloFrom X.env.cells scope.names [])) fp
  have bv := hv s3 (upd H2 p (.dT [])) s3.heap.objs.size (cellsFrom (s3.heap.objs.size + 1) scope.names (cloFrom X.env.cells scope.names [])) fp
  show codeAny _ _ (.compStart _ 0 (.ref it) (.ref p) (compEnvC scope (cellsFrom (s3.heap.objs.size + 1) scope.names (cloFrom X.env.cells scope.names [])) s3.heap.objs.size X.env)) (compPost _ _ _ use Qf (.ref p) s3.heap.objs.size) { s3 with heap := pushCells (s3.heap.push { cls := .type "dict", data := .dict #[] }) scope.names }
  have away : ∀ b ∈ fp, (upd H2 p (.dT [])) b = none := fun b hb => (foot3 b hb).1.1
  generalize ece : compEnvC scope (cellsFrom (s3.heap.objs.size + 1) scope.names (cloFrom X.env.cells scope.names [])) s3.heap.objs.size X.env = ce at I4 bg bt bk bv ⊢
  have loc : ce.locals = s3.heap.objs.size := by rw [← ece]; rfl
  generalize eH : upd H2 p (.dT []) = H3 at I3 I4 bg bt bk bv w0 away foot3
  generalize e4 : ({ s3 with heap := pushCells (s3.heap.push { cls := .type "dict", data := .dict #[] }) scope.names } : Shared) = s4 at I4 ⊢
  have start4 : tn 0 s4.heap := T.keep _ _ _ start3 fun b _ o z => by rw [← e4]; exact pushCells_keeps _ _ _ _ (Heap.get?_push_of_some _ z)
  have still : ∀ {σ' : St} {H' : Hp} {s' : Shared}, Inv (X.blk s3 H3 scope ce fp) [] σ' H' s' → (∀ b ∈ fp, H' b = none) → ∀ b ∈ fp, FpOk (X.blk s3 H3 scope ce fp) [] H' b := fun {σ' H' s'} J' n b hb =>
    ⟨n b hb, (J'.ok.exf b hb).1, J'.ok.exfs b hb, .inl hb, (fun x c z => (J'.ok.exf b hb).2 x c z), fun q hq => absurd (show q ∈ ([] : List (Addr × Obj)) ++ [] from hq) List.not_mem_nil⟩
  have loop : codeAny (model X.prog X.w) X.A (.compLoop (.DictComp kx vx [⟨tg, iter, ifs, 0⟩] scope pos) 0 (.ref it) (.ref p) ce) (compPost (model X.prog X.w) X.A X.xe use Qf (.ref p) s3.heap.objs.size) s4 := by
    refine compLoop_anyD (fun n s' => ∃ i H', Inv (X.blk s3 H3 scope ce fp) [] (wipe σ (own.map (·.2))) H' s' ∧ tn i s'.heap ∧ (∀ b ∈ fp, H' b = none) ∧ W i n H') (fun n s5 => ?_) m0 ⟨0, H3, I4, start4, away, w0⟩
    rintro ⟨i, H5, I5, t5, n5, w5⟩
    rcases turn i n H5 w5 with ⟨stop, fine⟩ | ⟨more, Nx, again, step⟩
    · refine thnF (T.done (X.blk s3 H3 scope ce fp) rfl rfl rfl hc i [] s5 _ H5 (fun _ _ => False) I5 (still I5 n5) t5 stop) fun r s6 ⟨er, I6⟩ => ?_
      subst er
      have I7 : Inv X pins σ H5 s6 := I3.call' (ch := fp) I6.os I6.base I6.hok I6.bare fun b hb => let f := (foot3 b hb).1; ⟨f.2.2.2.1, f.2.1, f.2.2.2.2.1, f.2.2.2.2.2⟩
      have nC : H5 s3.heap.objs.size = none := by
        rw [← loc]
        exact I6.free
      obtain ⟨m, hm, _⟩ := I6.loc
      have hm : s6.heap.Ns s3.heap.objs.size m := by
        rw [← loc]
        exact hm
      exact out p s3.heap.objs.size s6 m H5 I7 fine hm (I3.fpOk (Nat.le_refl _) nC)
    · refine thnF (T.item (X.blk s3 H3 scope ce fp) rfl rfl rfl hc i [] s5 _ H5 (fun _ _ => False) I5 (still I5 n5) t5 more) fun r s6 ⟨u, er, h6⟩ => ?_
      subst er
      refine thnF h6 fun _ s7 ⟨x, H7, I7, r7, y7, t7, n7⟩ => ?_
      have P7 := I7.pinned (still I7 n7) (T.obj _ _ t7)
      refine thnF (bg.run _ s7 _ H7 x u _ P7 r7 (step x H7 y7)) fun _ s8 ⟨σ8, H8, I8, w8, q8⟩ => ?_
      refine thnF (bt.run _ s8 σ8 H8 _ I8 q8) fun b s9 ⟨H9, I9, q9⟩ => ?_
      have next : ∀ {s' : Shared} {H' : Hp}, Inv (X.blk s3 H3 scope ce fp) ([] ++ pinsAt fp s7.heap) σ8 H' s' → Nx H' → ∃ m, m < n ∧ ∃ i H', Inv (X.blk s3 H3 scope ce fp) [] (wipe σ (own.map (·.2))) H' s' ∧ tn i s'.heap ∧ (∀ b ∈ fp, H' b = none) ∧ W i m H' := fun {s' H'} J' nx => by
        obtain ⟨m', lt, w'⟩ := again H' nx
        have pin : ∀ b ∈ fp, ∀ o, s7.heap.get? b = some o → s'.heap.get? b = some o ∧ H' b = none := fun b hb o z =>
          let y := J'.pin (b, o) (List.mem_append_right _ (List.mem_append_right _ (mem_pinsAt hb z)))
          ⟨y.1, y.2.1⟩
        have weak := (J'.unpinned (pins := [])).weak (show (wipe σ (own.map (·.2))).length = σ8.length by rw [← w8, wipe_length]) fun j v z => (wipe_some (by rw [w8]; exact z : (wipe σ8 (own.map (·.2)))[j]? = some (some v))).1
        exact ⟨m', lt, i + 1, H', weak, T.keep _ _ _ t7 fun b hb o z => (pin b hb o z).1, fun b hb => let ⟨o, z, _⟩ := T.obj _ _ t7 b hb; (pin b hb o z).2, w'⟩
      cases b with
      | false =>
        rw [if_neg Bool.false_ne_true] at q9 ⊢
        exact next I9 q9
      | true =>
        rw [if_pos rfl] at q9 ⊢
        refine thnF (bk.run _ s9 σ8 H9 _ I9 q9) fun z1 s10 ⟨yk, H10, I10, r10, q10⟩ => ?_
        refine thnF (bv.run _ s10 σ8 H10 _ I10 q10) fun z2 s11 ⟨yv, H11, I11, r11, rows, ks, b, ek, eb, ed, few, nx⟩ => ?_
        subst ek
        cases (show z1 = Value.ref b from r10)
        exact keep_dT (X := X.blk s3 H3 scope ce fp) hu I11 ed eb few r11 fun s12 I12 => next I12 nx
  exact codeAny_compStart_dict loop (T.self X.A 0 _ _ _ start4 loop)
theorem pe_dcT (hu : X.A.units + 1 < cLine) (hc : X.calm = true) (hN : X.N.Nodup) (hi : PI X tg iter wi) (ok : BlkOk X.N X.env.scope scope own) (hg : AllBlk X scope fun Y => PG Y tg g) (ht : AllBlk X scope fun Y => PTs Y ifs tt)
    (hk : AllBlk X scope fun Y => PE Y kx tk) (hv : AllBlk X scope fun Y => PE Y vx tv) (hs : ∀ x, foldedSetIterable iter X.env x = pure x := by intro _; rfl) : PE X (.DictComp kx vx [⟨tg, iter, ifs, 0⟩] scope pos) (tDcT wi g tt tk tv (own.map (·.2))) := by
  refine ⟨fun pins s σ H Q I h => ?_⟩
  rw [arm_eval_DictComp]
  refine dcT_run hu hc hN I hi ok hg ht hk hv hs h fun p C s' m H' J' q ns f => ⟨m, ns, fun h2 sb => ?_⟩
  exact ⟨.ref p, H', J'.turned (t' := s'.toks) (fun b o ne z => (sb.2 b ne).trans z) f.1 f.2.1 f.2.2.2.1 f.2.2.2.2.1 f.2.2.2.2.2, rfl, q⟩
end
end DL

set_option Elab.async false
set_option linter.all false
set_option maxRecDepth 100000
/-! tuples that are keys, dict comprehensions with such: over data -/
namespace DL
open PySem PySem.Spec PyProof.Rows L2
/-! ### a tuple that may be a key -/
def keyLD : List D → Option (List Key)
  | [] => some []
  | d :: ds => match keyD d, keyLD ds with
    | some k, some ks => some (k :: ks)
    | _, _ => none
theorem keyLD_rep {K : PySem.W.Frag} {H : Hp} {M : Option Hp} : ∀ {ds : List D} {ks : List Key} {vs : List V}, keyLD ds = some ks → RepA K H M ds vs → vs = ks.map kV
  | [], ks, vs, h, r => by
    cases h
    exact r
  | d :: ds, ks, vs, h, r => by
    obtain ⟨v, w, rfl, r1, r2⟩ := r
    unfold keyLD at h
    split at h
    · rename_i k ks' e1 e2
      cases h
      rw [keyD_rep e1 r1, keyLD_rep e2 r2] <;> rfl
    · cases h
def eKtp (t : AT) : ET := fun e δ q => t e δ fun ds => ∃ ks, keyLD ds = some ks ∧ ds.length ≤ sizeLine ∧ q .fz (.ktp ks)
section
variable {X : Cx} {W : WX} {es : List Expr} {t : AT} {pos : Pos}
theorem de_ktp {x1} (h : DI X W es t) : DE X W (.Tuple es x1 pos) (eKtp t) := PE.imp (pe_tup h) fun σ H Q ⟨B, δ, e, q, r0, h, ok, bad⟩ => by
  refine ⟨B, δ, e, _, r0, h, fun vs H' ds s R ⟨ks, ek, hl, hq⟩ => ⟨by rw [R.len]; exact hl, fun p hp => ?_⟩, bad⟩
  have ev := keyLD_rep ek R
  subst ev
  exact ok (.ref p) _ .fz (.ktp ks) (s.trans (same_upd' hp)) ⟨p, rfl, cut_some.mpr ⟨(r0.ext s).notOwn hp, upd_same⟩⟩ hq
end
/-! ### {k: v for ..} with such keys -/
def putT (kvs : List (List Key × Key)) (k : List Key) (v : Key) : List (List Key × Key) :=
  if (kvs.any fun kv => decide (kv.1 = k)) = true then kvs.map (fun kv => if kv.1 = k then (kv.1, v) else kv) else kvs ++ [(k, v)]
theorem kvV_put (kvs : List (List Key × Key)) (k : List Key) (v : Key) : kvV (putT kvs k v) = putK (kvV kvs) k (kV v) := by
  unfold putT putK kvV
  have e : ((kvs.map fun p => (p.1, kV p.2)).any fun kv => decide (kv.1 = k)) = kvs.any fun kv => decide (kv.1 = k) := by
    rw [List.any_map]
    rfl
  rw [e]
  split
  · rw [List.map_map, List.map_map]
    refine List.map_congr_left fun p _ => ?_
    by_cases c : p.1 = k
    · simp [c]
    · simp [c]
  · rw [List.map_append]
    rfl
theorem length_putT (kvs : List (List Key × Key)) (k : List Key) (v : Key) : (putT kvs k v).length ≤ kvs.length + 1 := by
  unfold putT
  split
  · rw [List.length_map]; omega
  · rw [List.length_append, List.length_cons, List.length_nil]; omega
def dcTR (f : Gv) (tg : GT) (tst : BT) (ek ev : ET) (δ : DSt) : List D → List (List Key × Key) → (List (List Key × Key) → Prop) → Prop
  | [], acc, q => q acc
  | d :: r, acc, q => tg f d δ fun δ2 => tst xn δ2 fun b => if b = true then ek xn δ2 fun _ k => ev xn δ2 fun _ y => match k, keyD y with
      | .ktp ks, some c => dcTR f tg tst ek ev δ r (putT acc ks c) q
      | _, _ => False else dcTR f tg tst ek ev δ r acc q
def eDcT (it : IT) (own : List Nat) (tg : GT) (tst : BT) (ek ev : ET) : ET := fun e δ q => it e δ fun f ds => (noOw own δ ∧ ds.length ≤ sizeLine) ∧ dcTR f tg tst ek ev (forget own δ) ds [] fun ys => q .nw (.dtp ys)
section
variable {X : Cx} {W : WX} {g : GT} {ws : List Nat} {tst : BT} {it : IT} {own : List (Str × Nat)}
theorem lift_dcT {ek ev : ET} (hw : ∀ j ∈ ws, j ∈ own.map (·.2)) (hm : 1000 ∉ ws) : ∀ σ H Q, Lift X.K W (eDcT it (own.map (·.2)) g tst ek ev) σ H Q → tDcT (LiftIt X.K W it) (LiftG X.K ws g) (LiftT X.K W0 tst) (Lift X.K W0 ek) (Lift X.K W0 ev) (own.map (·.2)) σ H Q := by
  rintro σ H Q ⟨B, δ, e, q, r, h, ok, bad⟩
  refine ⟨B, δ, e, _, r, h, fun J H1 fl ds s1 Dv hq => ?_, bad⟩
  generalize own.map (·.2) = vs at hw hq ⊢
  intro D hD
  obtain ⟨⟨hno, hlen⟩, hq⟩ := hq
  have r1 := r.ext s1
  obtain ⟨rd, sd⟩ := r1.drop vs
  obtain ⟨rh, sh⟩ := rd.hideMore (p := D) (o := .dT []) hD (fun _ z => by cases z) ⟨(fun _ _ z => by cases z), (fun _ z => by cases z), trivial⟩
  refine ⟨fun i m H' => m = ds.length - i ∧ i ≤ ds.length ∧ Same H1 H' ∧ ∃ as, H' D = some (.dT (kvV as)) ∧ as.length ≤ i ∧
    DRel X.K (B.more D) H' (forget vs δ) (wipe σ vs) ∧ Same (Frz B H1 δ σ) (Frz (B.more D) H' (forget vs δ) (wipe σ vs)) ∧ dcTR fl g tst ek ev (forget vs δ) (ds.drop i) as fun ys => q .nw (.dtp ys),
    ⟨ds.length, by simp, Nat.zero_le _, same_upd' hD, [], upd_same, Nat.le_refl _, rh, sd.trans sh, hq⟩, ?_⟩
  rintro i m H' ⟨rfl, hi, sm, as, hacc, hal, rr, sz, hl⟩
  have sH : Same (Frz B H1 δ σ) H' := sz.trans (cut_le _ _)
  by_cases hlt : i < ds.length
  · refine .inr ⟨Dv.go H' i sH hlt, fun H2 => Same H1 H2 ∧ ∃ as, H2 D = some (.dT (kvV as)) ∧ as.length ≤ i + 1 ∧
      DRel X.K (B.more D) H2 (forget vs δ) (wipe σ vs) ∧ Same (Frz B H1 δ σ) (Frz (B.more D) H2 (forget vs δ) (wipe σ vs)) ∧ dcTR fl g tst ek ev (forget vs δ) (ds.drop (i + 1)) as fun ys => q .nw (.dtp ys),
      fun H2 ⟨z1, z2⟩ => ⟨_, by omega, rfl, hlt, z1, z2⟩, fun x H2 y => ?_⟩
    obtain ⟨d, ed, yl⟩ := Dv.yld H' i x H2 sH hlt y
    obtain ⟨s2, R⟩ := yl.at rr sz
    have edrop : ds.drop i = d :: ds.drop (i + 1) := by
      rw [List.drop_eq_getElem_cons hlt]
      have : ds[i] = d := by
        rw [List.getElem?_eq_getElem hlt] at ed
        exact Option.some.inj ed
      rw [this]
    rw [edrop] at hl
    refine ⟨B.more D, forget vs δ, fl, d, _, rr.ext s2, R, hl, fun δ3 σ3 H3 r3 s3 b3 h3 => ⟨wipe_but b3 hw, ?_⟩⟩
    have s23 := b3.heap hm
    refine ⟨B.more D, δ3, xn, _, r3, h3, fun b H4 s4 h4 => ?_, fun _ _ _ _ _ _ z => z.elim⟩
    cases b with
    | false =>
      rw [if_neg Bool.false_ne_true] at h4
      show _ ∧ _
      have s' : Same H' H4 := (s2.trans s23).trans s4
      exact ⟨sm.trans s', as, s' _ _ hacc, Nat.le_succ_of_le hal, rr.ext s', sz.trans (DRel.frz_ext s'), h4⟩
    | true =>
      rw [if_pos rfl] at h4
      refine ⟨B.more D, δ3, xn, _, r3.ext s4, h4, fun kv H5 gk kd s5 R5 h5 => ?_, fun _ _ _ _ _ _ z => z.elim⟩
      refine ⟨B.more D, δ3, xn, _, (r3.ext s4).ext s5, h5, fun y H6 gy dy s6 R6 h6 => ?_, fun _ _ _ _ _ _ z => z.elim⟩
      split at h6
      · rename_i ks c ec
        obtain ⟨b, rfl, hb⟩ : ∃ b, kv = .ref b ∧ H5 b = some (.tup (ks.map kV)) := by
          obtain ⟨b, e1, e2⟩ := R5.toB (r3.ext s4)
          exact ⟨b, e1, (cut_some.mp e2).2⟩
        have ey := keyD_rep ec ((R6.toB ((r3.ext s4).ext s5)).full (cut_le _ _))
        subst ey
        have s' : Same H' H6 := (((s2.trans s23).trans s4).trans s5).trans s6
        have hD6 : H6 D = some (.dT (kvV as)) := s' _ _ hacc
        have le : (kvV as).length = as.length := by unfold kvV; rw [List.length_map]
        refine ⟨kvV as, ks, b, rfl, s6 _ _ hb, hD6, by rw [le]; exact Nat.lt_of_le_of_lt hal (Nat.lt_of_lt_of_le hlt hlen), ?_⟩
        obtain ⟨rg, sg⟩ := (rr.ext s').grow (o' := .dT (putK (kvV as) ks (kV c))) (fun _ z => by cases z) ⟨(fun _ _ z => by cases z), (fun _ z => by cases z), trivial⟩
        refine ⟨fun b o hb => ?_, putT as ks c, by rw [kvV_put]; exact upd_same, Nat.le_trans (length_putT _ _ _) (by omega), rg, (sz.trans (DRel.frz_ext s')).trans sg, h6⟩
        rw [upd_ne (ne_of_none hb hD)]
        exact s' _ _ (sm _ _ hb)
      · exact h6.elim
  · have e : i = ds.length := by omega
    subst e
    rw [List.drop_length] at hl
    have hl' : q .nw (.dtp as) := hl
    exact .inl ⟨Dv.stop H' sH, ok _ _ .nw (.dtp as) (s1.trans sm) ⟨D, rfl, s1.free hD, hacc⟩ hl'⟩
theorem de_dcT {kx vx tg iter : Expr} {ifs : List Expr} {scope : Scope} {pos : Pos} {ek ev : ET} (own : List (Str × Nat)) (hu : X.A.units + 1 < cLine) (hc : X.calm = true) (hN : X.N.Nodup) (hi : DIt X W tg iter it) (ok : BlkOk X.N X.env.scope scope own)
    (hg : InBlk X scope fun Y => DG Y ws tg g) (ht : InBlk X scope fun Y => DTs Y W0 ifs tst) (hk : InBlk X scope fun Y => DE Y W0 kx ek) (he : InBlk X scope fun Y => DE Y W0 vx ev)
    (hw : ∀ j ∈ ws, j ∈ own.map (·.2) := by decide) (hm : 1000 ∉ ws := by decide) (hs : ∀ x, foldedSetIterable iter X.env x = pure x := by intro _; rfl) :
    DE X W (.DictComp kx vx [⟨tg, iter, ifs, 0⟩] scope pos) (eDcT it (own.map (·.2)) g tst ek ev) := PE.imp (pe_dcT hu hc hN hi ok hg ht hk he hs) (lift_dcT hw hm)
end
end DL

set_option Elab.async false
set_option linter.all false
set_option maxRecDepth 100000
namespace DL
open PySem PySem.Spec PyProof.Rows L2
/-! ### lengths_of -/
def lensK (T : Tr) : List (List Key × Key) := T.edges.map fun e => ([.inr e.1, .inr e.2.1], .inl e.2.2)
/-- no two edges have the same nodes, in this order -/
def PairNd (T : Tr) : Prop := T.edges.Pairwise fun e f => ¬ (e.1 = f.1 ∧ e.2.1 = f.2.1)
theorem pair_nd {T : Tr} {d : Str → Str → Int} (M : Met T d) : PairNd T := by
  unfold PairNd
  rw [List.pairwise_iff_getElem]
  rintro i j hi hj ij ⟨e1, e2⟩
  have nd := M.adjNd T.edges[i].1
  have em : (T.adj T.edges[i].1).map (·.1) = T.edges.filterMap fun e => (beside T.edges[i].1 e).map (·.1) := by
    unfold Tr.adj
    rw [List.map_filterMap]
  rw [em] at nd
  have pw := List.pairwise_filterMap.mp nd
  have := List.pairwise_iff_getElem.mp pw i j hi hj ij T.edges[i].2.1 (by unfold beside; rw [if_pos rfl] <;> rfl) T.edges[j].2.1 (by unfold beside; rw [if_pos e1.symm] <;> rfl)
  exact this e2
def sp_lengths_of : SpT := fun ds e q => ∃ T, ds = [treeD T] ∧ Small T ∧ PairNd T ∧ q (.dtp (lensK T))
/-! lengths_of: some_tree 0, first 1, second 2, length 3 -/
def N_lengths_of : List Str := ["some_tree", "first", "second", "length"]
def t_lengths_of : ST := (sRetL (eDcT (itSeq (eOp fIx (eVar 0) (eC (.int 1)))) [1, 2, 3] (tTup (fits 3 (tsCons (tName 1) (tsCons (tName 2) (tsCons (tName 3) tsNil))))) bYes (eKtp (iCons (eVar 1) (iCons (eVar 2) aNil))) (eVar 3)))
theorem len_lengths_of : ∀ ds e q, sp_lengths_of ds e q → ds.length = ["some_tree"].length := by
  rintro _ e q ⟨T, rfl, _⟩
  rfl
theorem treeL_args (T : Tr) : immA [treeD T] = true := by
  show ((treeD T).imm && true) = true
  rw [treeA_imm] <;> rfl
theorem putT_new {kvs : List (List Key × Key)} {k : List Key} {v : Key} (h : ∀ p ∈ kvs, p.1 ≠ k) : putT kvs k v = kvs ++ [(k, v)] := by
  unfold putT
  rw [if_neg]
  intro z
  obtain ⟨p, hp, e⟩ := List.any_eq_true.mp z
  exact h p hp (of_decide_eq_true e)
theorem m_lengths_of : ∀ ds e q, sp_lengths_of ds e q → t_lengths_of { nx := fun _ => q .non, rt := q, xe := fun x _ => e x, lent := True } (startD N_lengths_of ds) := by
  rintro _ e q ⟨T, rfl, hs, hp, h⟩
  refine ⟨.tup (T.edges.map edgeD), rfl, ⟨⟨trivial, trivial, trivial, trivial⟩, by rw [List.length_map]; exact line1000 hs.2⟩, ?_⟩
  have go : ∀ (l : List (Str × Str × Int)) (acc : List (List Key × Key)), (l.Pairwise fun e f => ¬ (e.1 = f.1 ∧ e.2.1 = f.2.1)) → (∀ a ∈ l, ∀ p ∈ acc, p.1 ≠ [.inr a.1, .inr a.2.1]) →
      ∀ (q : List (List Key × Key) → Prop), q (acc ++ l.map fun e => ([.inr e.1, .inr e.2.1], .inl e.2.2)) →
      dcTR .sh (tTup (fits 3 (tsCons (tName 1) (tsCons (tName 2) (tsCons (tName 3) tsNil))))) bYes (eKtp (iCons (eVar 1) (iCons (eVar 2) aNil))) (eVar 3) [.sh (treeD T), .un, .un, .un] (l.map edgeD) acc q := by
    intro l
    induction l with
    | nil =>
      intro acc _ _ q hq
      rw [List.map_nil, List.append_nil] at hq
      exact hq
    | cons a l ih =>
      intro acc nd na q hq
      obtain ⟨n1, n2⟩ := List.pairwise_cons.mp nd
      refine ⟨rfl, [.inr a.1, .inr a.2.1], rfl, show 2 ≤ sizeLine by decide, ?_⟩
      show dcTR _ _ _ _ _ _ (l.map edgeD) (putT acc [.inr a.1, .inr a.2.1] (.inl a.2.2)) q
      rw [putT_new (na a (by simp))]
      refine ih _ n2 (fun b hb p hp => ?_) q (by rw [List.append_assoc]; exact hq)
      rcases List.mem_append.mp hp with hp | hp
      · exact na b (List.mem_cons_of_mem _ hb) p hp
      · rw [List.mem_singleton.mp hp]
        intro z
        have z : ([.inr a.1, .inr a.2.1] : List Key) = [.inr b.1, .inr b.2.1] := z
        obtain ⟨z1, z2⟩ := List.cons.inj z
        exact n1 b hb ⟨Sum.inr.inj z1, Sum.inr.inj (List.cons.inj z2).1⟩
  refine go T.edges [] hp (fun _ _ p hp => (nomatch hp)) _ ?_
  exact ⟨⟨trivial, rfl⟩, h⟩
end DL

set_option Elab.async false
set_option linter.all false
set_option maxRecDepth 100000
namespace DL
open PySem PySem.Spec PyProof.Rows L2
/-! is_group: some_tree 0, names 1, inside 2, first 3, second 4 -/
def N_is_group : List Str := ["some_tree", "names", "inside", "first", "second"]
def t_is_group_1 : ST := (sSeq (sSet 2 (eLc (itKeys (eCallM sp_lengths_of (aCons (eVar 0) aNil))) [3, 4] (tTup (fits 2 (tsCons (tName 3) (tsCons (tName 4) tsNil)))) (bAnd (bCmp (fIn false) (eVar 3) (eVar 1)) (bCmp (fIn false) (eVar 4) (eVar 1))) (eVar 3)))
  (sRet (eCmp fEq (eCB fLen (aCons (eVar 2) aNil)) (eOp fSub (eCB fLen (aCons (eVar 1) aNil)) (eC (.int 1))))))
def t_is_group : ST := (sSeq (sIf (bOr (bNot (bTru (eVar 1))) (bOr (bCmp fNe (eCB fList (aCons (eVar 1) aNil)) (eSortSet (eVar 1))) (bNot (bVal (eCall sp_are_nodes (aCons (eVar 0) (aCons (eVar 1) aNil))))))) (sRet (eC (.bl false))) sNext)
  t_is_group_1)
theorem len_is_group : ∀ ds e q, sp_is_group ds e q → ds.length = ["some_tree", "names"].length := by
  rintro _ e q ⟨T, d, r, rfl, _⟩
  rfl
theorem is_group_1 {T : Tr} {r : List Str} {E : En} (hsm : Small T) (hp : PairNd T) (hl : r.length ≤ 1000) (h : ∀ b, (b = true ↔ (T.edges.filter (inner r)).length + 1 = r.length) → E.rt (.bl b)) :
    t_is_group_1 E [.sh (treeD T), .sh (.tup (r.map .str)), .un, .un, .un] := by
  refine ⟨treeL_args T, T, rfl, hsm, hp, rfl, ?_⟩
  refine ⟨⟨⟨trivial, trivial, trivial⟩, by unfold lensK; rw [List.length_map, List.length_map]; exact line1000 hsm.2⟩, ?_⟩
  show lcR .sh _ _ _ _ ((lensK T).map fun kd => .ktp kd.1) _
  rw [show ((lensK T).map fun kd => D.ktp kd.1) = T.edges.map fun ed => .ktp [.inr ed.1, .inr ed.2.1] by unfold lensK; rw [List.map_map]; rfl]
  refine lcR_flt (fun ed : Str × Str × Int => D.ktp [.inr ed.1, .inr ed.2.1]) (inner r) (fun ed => .str ed.1) T.edges (fun ed _ A B h1 h2 => ?_) _ ?_
  · refine ⟨rfl, ⟨rfl, flat_strs _⟩, ?_⟩
    show if inD (.str ed.1) (r.map .str) = true then _ else _
    rw [inD_strs]
    refine ite2D (fun c1 => ?_) fun c1 => itF (h2 (by show (_ && _) = false; rw [c1] <;> rfl))
    refine ⟨⟨rfl, flat_strs _⟩, ?_⟩
    show if inD (.str ed.2.1) (r.map .str) = true then _ else _
    rw [inD_strs]
    exact ite2D (fun c2 => h1 (by show (_ && _) = true; rw [c1, c2] <;> rfl)) fun c2 => h2 (by show (_ && _) = false; rw [c1, c2] <;> rfl)
  refine ⟨rfl, h _ ?_⟩
  rw [decide_eq_true_iff, List.length_map, List.length_map]
  omega
theorem m_is_group : ∀ ds e q, sp_is_group ds e q → t_is_group { nx := fun _ => q .non, rt := q, xe := fun x _ => e x } (startD N_is_group ds) := by
  rintro _ e q ⟨T, d, r, rfl, M, hsm, hl, hok, h⟩
  have no : ¬ IsGrp T d r → q (.bl false) := fun z => h false ⟨(fun y => nomatch y), fun y => absurd y z⟩
  show if (!!(r.map D.str).isEmpty) = true then _ else _
  cases r with
  | nil => exact ⟨rfl, no fun z => z.1 rfl⟩
  | cons o s =>
    generalize er : o :: s = r at *
    have rne : r ≠ [] := by rw [← er]; exact List.cons_ne_nil _ _
    rw [show (r.map D.str).isEmpty = false by rw [← er] <;> rfl]
    refine itF ?_
    refine ⟨r.map .str, r.map Sum.inr, false, rfl, pyA_strs r, by rw [List.length_map]; omega, fun c hc => ?_, fun ys p so => ?_⟩
    · obtain ⟨x, _, rfl⟩ := List.mem_map.mp hc
      rfl
    obtain ⟨zs, ez, az, mz⟩ := sortSet_strs p so
    rw [ez]
    have zok : StrsOk zs := fun x hx => hok x ((mz x).mp hx)
    have eq_asc : r = zs ↔ AscT r := ⟨fun z => by rw [z]; exact az, fun z => ascT_eq (fun x => (mz x).symm) z az⟩
    refine ne_ways (d := strsD r) (e := strsD zs) (strsD_ok hok) (strsD_ok zok) (Nat.le_trans (strsD_dep _) (by decide)) (Nat.le_trans (strsD_dep _) (by decide)) (fun z => ?_) fun z => ?_
    · have asc : AscT r := eq_asc.mp (strsD_inj.mp z)
      refine itF ?_
      refine ⟨T, r, _, rfl, .inr rfl, hsm, hl, ?_⟩
      show if (!decide (∀ x ∈ r, x ∈ T.names)) = true then _ else _
      by_cases sub : ∀ x ∈ r, x ∈ T.names
      · rw [decide_eq_true sub]
        refine itF (is_group_1 hsm (pair_nd M) hl fun b hb => h b ?_)
        rw [hb, ← M.conv_iff asc.nd rne sub]
        exact ⟨fun z => ⟨rne, asc, sub, z⟩, fun z => z.2.2.2⟩
      · rw [decide_eq_false sub]
        exact itT ⟨rfl, no fun z => sub z.2.2.1⟩
    · exact itT ⟨rfl, no fun y => z (strsD_inj.mpr (eq_asc.mpr y.2.1))⟩
end DL

set_option Elab.async false
set_option linter.all false
set_option maxRecDepth 100000
namespace DL
open PySem PySem.Spec PyProof.Rows L2
/-! ### beyond an edge -/
def beyL (T : Tr) (d : Str → Str → Int) (s a b : Str) : List Str := if s ∈ lft T d a b then lft T d b a else lft T d a b
/-- an edge's nodes, as a tuple of any kind -/
def EndsD (x : D) (a b : Str) : Prop := x = .ktp [.inr a, .inr b] ∨ x = .tup [.str a, .str b]
def sp_beyond : SpT := fun ds e q => ∃ T d s a b l x, ds = [treeD T, .str s, x] ∧ EndsD x a b ∧ Met T d ∧ Small T ∧ (b, l) ∈ T.adj a ∧ q (strsD (beyL T d s a b))
def sp_wanted_beyond : SpT := fun ds e q => ∃ T d s a b l x ws, ds = [treeD T, .str s, strsD ws, x] ∧ EndsD x a b ∧ Met T d ∧ Small T ∧ (b, l) ∈ T.adj a ∧ q (strsD ((beyL T d s a b).filter fun y => decide (y ∈ ws)))
/-! beyond: some_tree 0, start 1, edge 2, near 3, other 4 -/
def N_beyond : List Str := ["some_tree", "start", "edge", "near", "other"]
def t_beyond : ST := (sSeq (sAsg (eCall sp_sides (aCons (eVar 0) (aCons (eOp fIx (eVar 2) (eC (.int 0))) (aCons (eOp fIx (eVar 2) (eC (.int 1))) aNil)))) (tTup (fits 2 (tsCons (tName 3) (tsCons (tName 4) tsNil)))))
  (sRet (eIf (bCmp (fIn false) (eVar 1) (eVar 3)) (eVar 4) (eVar 3))))
/-! _wanted_beyond: some_tree 0, start 1, wanted 2, edge 3, name 4 -/
def N_wanted_beyond : List Str := ["some_tree", "start", "wanted", "edge", "name"]
def t_wanted_beyond : ST := (sRet (eLc (itSeq (eCall sp_beyond (aCons (eVar 0) (aCons (eVar 1) (aCons (eVar 3) aNil))))) [4] (tName 4) (bCmp (fIn false) (eVar 4) (eVar 2)) (eVar 4)))
/-! needed: some_tree 0, start 1, wanted 2, edge 3 -/
def N_needed : List Str := ["some_tree", "start", "wanted", "edge"]
def t_needed : ST := (sRet (eLc (itKeys (eCallM sp_lengths_of (aCons (eVar 0) aNil))) [3] (tName 3) (bTru (eCall sp_wanted_beyond (aCons (eVar 0) (aCons (eVar 1) (aCons (eVar 2) (aCons (eVar 3) aNil)))))) (eVar 3)))
/-! walk_length: some_tree 0, walk 1, total 2, here 3, there 4, lengths 5 -/
def N_walk_length : List Str := ["some_tree", "walk", "total", "here", "there", "lengths"]
def t_walk_length_1 : ST := (sAug 2 fAug (eOp fIx (eVar 5) (eVar 4)))
def t_walk_length_2 : ST := (sRet (eVar 2))
def t_walk_length_3 : ST := (sSeq (sSet 2 (eC (.int 0)))
  (sSeq (sForget [3, 4, 5] (sFor (itZip (iCons (eVar 1) (iCons (eSl (eVar 1) (oSome (eC (.int 1))) oNone) aNil))) (tTup (fits 2 (tsCons (tName 3) (tsCons (tName 4) tsNil)))) (sSeq (sSet 5 (eCB fDict (aCons (eCall sp_neighbors (aCons (eVar 0) (aCons (eVar 3) aNil))) aNil)))
  (sSeq (sIf (bCmp (fIn true) (eVar 4) (eVar 5)) (sRet (eC .non)) sNext)
  t_walk_length_1)) [1, 3, 4, 5]))
  t_walk_length_2))
def t_walk_length : ST := (sSeq (sIf (bOr (bNot (bTru (eVar 1))) (bCmp (fIn true) (eOp fIx (eVar 1) (eC (.int 0))) (eCall sp_names_of (aCons (eVar 0) aNil)))) (sRet (eC .non)) sNext)
  t_walk_length_3)
theorem len_beyond : ∀ ds e q, sp_beyond ds e q → ds.length = ["some_tree", "start", "edge"].length := by
  rintro _ e q ⟨T, d, s, a, b, l, x, rfl, _⟩
  rfl
theorem len_wanted_beyond : ∀ ds e q, sp_wanted_beyond ds e q → ds.length = ["some_tree", "start", "wanted", "edge"].length := by
  rintro _ e q ⟨T, d, s, a, b, l, x, ws, rfl, _⟩
  rfl
theorem len_needed : ∀ ds e q, sp_needed ds e q → ds.length = ["some_tree", "start", "wanted"].length := by
  rintro _ e q ⟨T, d, s, ws, rfl, _⟩
  rfl
theorem len_walk_length : ∀ ds e q, sp_walk_length ds e q → ds.length = ["some_tree", "walk"].length := by
  rintro _ e q ⟨T, d, ws, rfl, _⟩
  rfl
theorem lft_len {T : Tr} {d : Str → Str → Int} (hs : Small T) (a b : Str) : (lft T d a b).length ≤ 1000 := Nat.le_trans (List.length_filter_le _ _) hs.names
theorem bey_len {T : Tr} {d : Str → Str → Int} (hs : Small T) (s a b : Str) : (beyL T d s a b).length ≤ 1000 := by
  unfold beyL
  split
  · exact lft_len hs b a
  · exact lft_len hs a b
theorem m_beyond : ∀ ds e q, sp_beyond ds e q → t_beyond { nx := fun _ => q .non, rt := q, xe := fun x _ => e x } (startD N_beyond ds) := by
  rintro _ e q ⟨T, d, s, a, b, l, x, rfl, hx, M, hs, hl, h⟩
  have go : ∀ i0 : Sl, t_beyond { nx := fun _ => q .non, rt := q, xe := fun x _ => e x } [.sh (treeD T), .sh (.str s), .sh x, .un, .un] := fun i0 => by
    have rest : sAsg (fun e0 δ q0 => q0 .fr (.tup [strsD (lft T d a b), strsD (lft T d b a)])) (tTup (fits 2 (tsCons (tName 3) (tsCons (tName 4) tsNil)))) { nx := (sRet (eIf (bCmp (fIn false) (eVar 1) (eVar 3)) (eVar 4) (eVar 3))) { nx := fun _ => q .non, rt := q, xe := fun x _ => e x }, rt := q, xe := fun x _ => e x } [.sh (treeD T), .sh (.str s), .sh x, .un, .un] := by
      refine ⟨rfl, ⟨rfl, flat_strs _⟩, ?_⟩
      show if inD (.str s) ((lft T d a b).map .str) = true then _ else _
      rw [inD_strs]
      unfold beyL at h
      by_cases c : s ∈ lft T d a b
      · rw [decide_eq_true c]
        rw [if_pos c] at h
        exact itT ⟨rfl, h⟩
      · rw [decide_eq_false c]
        rw [if_neg c] at h
        exact itF ⟨rfl, h⟩
    rcases hx with rfl | rfl
    · exact ⟨.str a, rfl, .str b, rfl, T, d, a, b, l, rfl, M, hs, hl, rest⟩
    · exact ⟨.str a, rfl, .str b, rfl, T, d, a, b, l, rfl, M, hs, hl, rest⟩
  exact go .un
theorem m_wanted_beyond : ∀ ds e q, sp_wanted_beyond ds e q → t_wanted_beyond { nx := fun _ => q .non, rt := q, xe := fun x _ => e x } (startD N_wanted_beyond ds) := by
  rintro _ e q ⟨T, d, s, a, b, l, x, ws, rfl, hx, M, hs, hl, h⟩
  refine ⟨T, d, s, a, b, l, x, rfl, hx, M, hs, hl, ?_⟩
  refine ⟨⟨⟨trivial, trivial⟩, by rw [List.length_map]; exact line1000 (bey_len hs s a b)⟩, ?_⟩
  refine lcR_flt D.str (fun y => decide (y ∈ ws)) D.str (beyL T d s a b) (fun y hy A B h1 h2 => ?_) _ ?_
  · refine ⟨⟨rfl, flat_strs _⟩, ?_⟩
    show if inD (.str y) (ws.map .str) = true then _ else _
    rw [inD_strs]
    exact ite2D h1 h2
  · exact ⟨immA_map (fun _ => rfl) _, h⟩
theorem edge_adj {T : Tr} {a b : Str} {l : Int} (h : (a, b, l) ∈ T.edges) : (b, l) ∈ T.adj a := List.mem_filterMap.mpr ⟨(a, b, l), h, if_pos rfl⟩
theorem edge_side {T : Tr} {d : Str → Str → Int} (M : Met T d) {a b z : Str} {l : Int} (hl : (b, l) ∈ T.adj a) (hz : z ∈ T.names) : (d a z < d b z ∧ offB d a b z = true) ∨ (d b z < d a z ∧ offB d a b z = false) := by
  obtain ⟨ha, hb, l1, _⟩ := M.mem hl
  have ab : d a b = l := by
    have := M.d0 a
    have := M.pos a b
    rcases M.step ha hl with q | q <;> omega
  have s1 := M.symd z a
  have s2 := M.symd z b
  unfold offB
  rcases M.step hz hl with q | q
  · exact .inl ⟨by omega, by rw [decide_eq_false (by omega)] <;> rfl⟩
  · exact .inr ⟨by omega, by rw [decide_eq_true (by omega)] <;> rfl⟩
theorem mem_lftL {T : Tr} {d : Str → Str → Int} {a b z : Str} : z ∈ lft T d a b ↔ z ∈ T.names ∧ d a z < d b z := by
  unfold lft
  rw [List.mem_filter, decide_eq_true_iff]
/-- beyond: on the other side than s -/
theorem mem_bey {T : Tr} {d : Str → Str → Int} (M : Met T d) {s a b z : Str} {l : Int} (hs : s ∈ T.names) (hl : (b, l) ∈ T.adj a) : z ∈ beyL T d s a b ↔ z ∈ T.names ∧ offB d a b z ≠ offB d a b s := by
  unfold beyL
  rcases edge_side M hl hs with ⟨q1, q2⟩ | ⟨q1, q2⟩
  · rw [if_pos (mem_lftL.mpr ⟨hs, q1⟩), mem_lftL, q2]
    refine and_congr_right fun hz => ?_
    rcases edge_side M hl hz with ⟨r1, r2⟩ | ⟨r1, r2⟩
    · rw [r2]
      exact ⟨fun y => by omega, fun y => absurd rfl y⟩
    · rw [r2]
      exact ⟨fun _ => (fun y => nomatch y), fun _ => r1⟩
  · rw [if_neg (fun y => by have := (mem_lftL.mp y).2; omega), mem_lftL, q2]
    refine and_congr_right fun hz => ?_
    rcases edge_side M hl hz with ⟨r1, r2⟩ | ⟨r1, r2⟩
    · rw [r2]
      exact ⟨fun _ => (fun y => nomatch y), fun _ => r1⟩
    · rw [r2]
      exact ⟨fun y => by omega, fun y => absurd rfl y⟩
theorem need_iff {T : Tr} {d : Str → Str → Int} (M : Met T d) {s a b : Str} {l : Int} {ws : List Str} (hs : s ∈ T.names) (hw : ∀ x ∈ ws, x ∈ T.names) (hl : (b, l) ∈ T.adj a) : needB d s ws (a, b, l) = !((beyL T d s a b).filter fun y => decide (y ∈ ws)).isEmpty := by
  unfold needB
  rw [Bool.eq_iff_iff, List.any_eq_true, Bool.not_eq_true', List.isEmpty_eq_false_iff_exists_mem]
  constructor
  · rintro ⟨w, h1, h2⟩
    have h2 : (!decide (offB d a b w = offB d a b s)) = true := h2
    refine ⟨w, List.mem_filter.mpr ⟨(mem_bey M hs hl).mpr ⟨hw w h1, fun z => ?_⟩, decide_eq_true h1⟩⟩
    rw [decide_eq_true z] at h2
    cases h2
  · rintro ⟨w, h⟩
    obtain ⟨h1, h2⟩ := List.mem_filter.mp h
    refine ⟨w, of_decide_eq_true h2, ?_⟩
    show (!decide (offB d a b w = offB d a b s)) = true
    rw [decide_eq_false ((mem_bey M hs hl).mp h1).2]
    rfl
theorem m_needed : ∀ ds e q, sp_needed ds e q → t_needed { nx := fun _ => q .non, rt := q, xe := fun x _ => e x } (startD N_needed ds) := by
  rintro _ e q ⟨T, d, s, ws, rfl, L, hs, wl, wnd, hw, h⟩
  have M := L.met
  refine ⟨treeL_args T, T, rfl, L.small, pair_nd M, rfl, ?_⟩
  refine ⟨⟨⟨trivial, trivial⟩, by unfold lensK; rw [List.length_map, List.length_map]; exact line1000 L.small.2⟩, ?_⟩
  show lcR .sh _ _ _ _ ((lensK T).map fun kd => .ktp kd.1) _
  rw [show ((lensK T).map fun kd => D.ktp kd.1) = T.edges.map endsK by unfold lensK; rw [List.map_map]; rfl]
  refine lcR_flt endsK (needB d s ws) endsK T.edges (fun ed hed A B h1 h2 => ?_) _ ?_
  · obtain ⟨a, b, l⟩ := ed
    refine ⟨T, d, s, a, b, l, _, ws, rfl, .inl rfl, M, L.small, edge_adj hed, ?_⟩
    show if (!(((beyL T d s a b).filter fun y => decide (y ∈ ws)).map D.str).isEmpty) = true then _ else _
    rw [List.isEmpty_map, ← need_iff M hs hw (edge_adj hed)]
    exact ite2D h1 h2
  · exact ⟨immA_map (g := endsK) (fun _ => rfl) _, h⟩
/-! ### walk_length -/
theorem zip_strs : ∀ (xs ys : List Str), zipD (xs.map D.str) (ys.map D.str) = (xs.zip ys).map fun p => .tup [.str p.1, .str p.2]
  | [], _ => rfl
  | _ :: _, [] => rfl
  | x :: xs, y :: ys => by
    rw [List.zip_cons_cons, List.map_cons, List.map_cons, List.map_cons, zipD, zip_strs xs ys]
theorem zip_snd : ∀ (a : Str) (r : List Str), (((a :: r).zip r).map fun p => p.2) = r := fun a r => by
  have : ((a :: r).zip r).map Prod.snd = r := List.map_snd_zip (by simp)
  exact this
theorem cut_tail {α : Type} (g : α → D) (l : List α) : cutD (l.map g) (some 1) none = (l.drop 1).map g := cut_of g l 1
theorem near_look {T : Tr} {d : Str → Str → Int} (M : Met T d) (x : Str) : ∃ m, pairsD ((T.near x).map nodeD) = some m ∧ (∀ y l, (y, l) ∈ T.adj x → lookD (mergeD [] m) (.inr y) = some (.int l)) ∧ ∀ y, (∀ l, (y, l) ∉ T.adj x) → lookD (mergeD [] m) (.inr y) = none := by
  refine ⟨_, pairsD_map _, ?_⟩
  have nd : ((T.near x).map (·.1)).Nodup := ((sort2_perm (T.adj x)).map (·.1)).nodup_iff.mpr (M.adjNd x)
  have e := mergeD_map (T.near x) [] nd
  have e : mergeD [] ((T.near x).map fun p => ((.inr p.1 : Key), D.int p.2)) = (T.near x).map fun p => ((.inr p.1 : Key), D.int p.2) := e
  rw [e]
  refine ⟨fun y l h => lookD_map nd ((sort2_perm _).mem_iff.mpr h), fun y h => lookD_none fun z => ?_⟩
  obtain ⟨⟨y', l⟩, h1, h2⟩ := List.mem_map.mp z
  cases h2
  exact h l ((sort2_perm _).mem_iff.mp h1)
theorem m_walk_length : ∀ ds e q, sp_walk_length ds e q → t_walk_length { nx := fun _ => q .non, rt := q, xe := fun x _ => e x } (startD N_walk_length ds) := by
  rintro _ e q ⟨T, d, ws, rfl, L, wl, wok, h⟩
  have M := L.met
  show if (!!(ws.map D.str).isEmpty) = true then _ else _
  rw [List.isEmpty_map]
  cases ws with
  | nil => exact itT (itT ⟨rfl, h none fun n z => z.1 rfl⟩)
  | cons a r =>
    refine itF ⟨.str a, at_map D.str (i := 0) (l := a :: r) rfl, T, rfl, L.small, ⟨rfl, flat_strs _⟩, ?_⟩
    show if (!inD (.str a) (T.names.map .str)) = true then _ else _
    rw [inD_strs]
    by_cases ha : a ∈ T.names
    · rw [decide_eq_true ha]
      refine itF ?_
      show forR _ _ _ _ _ (zipD ((a :: r).map D.str) (cutD ((a :: r).map D.str) (some 1) none)) _
      rw [cut_tail D.str (a :: r), List.drop_one, List.tail_cons, zip_strs]
      -- behind some steps
      refine forR_map (fun p : Str × Str => D.tup [.str p.1, .str p.2]) (fun rest δ => ∃ w ls x1 x, a :: r = w ++ x :: rest.map (·.2) ∧ rest = (x :: rest.map (·.2)).zip (rest.map (·.2)) ∧ δ = [.sh (treeD T), x1, .sh (.int ls.sum), .un, .un, .un] ∧ Steps T (w ++ [x]) ls ∧ (∀ y ∈ w ++ [x], y ∈ T.names)) ?_ ?_ _ _ ⟨[], [], _, a, ?_, ?_, rfl, steps_one T a, fun y hy => by rw [show y = a by simpa using hy]; exact ha⟩
      · rintro δ ⟨w, ls, x1, x, e1, _, rfl, hS, hN⟩
        have e1 : a :: r = w ++ [x] := e1
        exact ⟨rfl, h (some ls.sum) ⟨List.cons_ne_nil _ _, by rw [e1]; exact hN, ls, by rw [e1]; exact hS, rfl⟩⟩
      · rintro ⟨x0, y⟩ rest δ nx ⟨w, ls, x1, x, e1, e2, rfl, hS, hN⟩ hnx
        have e0 : x0 = x := by
          have := congrArg List.head? e2
          simpa using this
        subst e0
        have hx : x0 ∈ T.names := hN x0 (by simp)
        obtain ⟨m, em, m1, m2⟩ := near_look M x0
        refine ⟨rfl, T, x0, rfl, L.small, m, em, ?_⟩
        by_cases c : ∃ l, (y, l) ∈ T.adj x0
        · obtain ⟨l, hl⟩ := c
          show if (!(lookD (mergeD [] m) (.inr y)).isSome) = true then _ else _
          rw [m1 y l hl]
          refine itF ⟨.int l, m1 y l hl, ?_⟩
          refine hnx _ ⟨w ++ [x0], ls ++ [l], .un, y, ?_, ?_, ?_, ?_, fun z hz => ?_⟩
          · rw [e1]
            simp
          · have := congrArg List.tail e2
            simpa using this
          · rw [List.sum_append, List.sum_cons, List.sum_nil, Int.add_zero]
            rfl
          · exact hS.snoc (by simp) hl
          · rcases List.mem_append.mp hz with hz | hz
            · exact hN z hz
            · rw [List.mem_singleton.mp hz]
              exact (M.mem hl).2.1
        · show if (!(lookD (mergeD [] m) (.inr y)).isSome) = true then _ else _
          rw [m2 y fun l hl => c ⟨l, hl⟩]
          refine itT ⟨rfl, h none fun n z => ?_⟩
          obtain ⟨_, _, ms, hm, _⟩ := z
          rw [e1] at hm
          obtain ⟨l, _, hl⟩ := hm.2 w.length x0 y (by simp) (by rw [List.getElem?_append_right (by omega)]; simp)
          exact c ⟨l, hl⟩
      · show a :: r = [] ++ a :: (((a :: r).zip r).map fun p => p.2)
        rw [zip_snd]
        rfl
      · show (a :: r).zip r = (a :: (((a :: r).zip r).map fun p => p.2)).zip (((a :: r).zip r).map fun p => p.2)
        rw [zip_snd]
    · rw [decide_eq_false ha]
      exact itT ⟨rfl, h none fun n z => ha (z.2.1 a (by simp))⟩
end DL

set_option Elab.async false
set_option linter.all false
set_option maxRecDepth 100000
namespace DL
open PySem PySem.Spec PyProof.Rows L2

/-! ### dicts over names -/
def mapK (h : Str → D) (r : List Str) : List (Key × D) := r.map fun x => (.inr x, h x)
theorem mapK_look (h : Str → D) {r : List Str} {x : Str} (hx : x ∈ r) : lookD (mapK h r) (.inr x) = some (h x) := by
  induction r with
  | nil => cases hx
  | cons y r ih =>
    unfold lookD mapK at *
    rw [List.map_cons, List.find?_cons]
    by_cases e : y = x
    · subst e
      simp
    · have : decide ((Sum.inr y : Key) = .inr x) = false := decide_eq_false fun z => e (Sum.inr.inj z)
      rw [this]
      exact ih ((List.mem_cons.mp hx).resolve_left fun z => e z.symm)
theorem mapK_put (h : Str → D) {r : List Str} {x : Str} (n : x ∉ r) : putD (mapK h r) (.inr x) (h x) = mapK h (r ++ [x]) := by
  rw [putD_new, mapK, mapK, List.map_append] <;> try rfl
  intro kv hk e
  obtain ⟨p, hp, rfl⟩ := List.mem_map.mp hk
  exact n (by rw [← Sum.inr.inj e]; exact hp)
/-- {name: h name for name in names} -/
theorem dcR_map (h : Str → D) {f : Gv} {tg : GT} {ek ev : ET} {δ : DSt} : ∀ (l acc : List Str), (acc ++ l).Nodup →
    (∀ x ∈ l, ∀ (A : Key → D → Prop), A (.inr x) (h x) → tg f (.str x) δ fun δ2 => ek xn δ2 fun _ k => ev xn δ2 fun t y => t.put (match keyD k with
      | some c => A c y
      | none => False)) →
      ∀ (q : List (Key × D) → Prop), q (mapK h (acc ++ l)) → dcR f tg bYes ek ev δ (l.map .str) (mapK h acc) q
  | [], acc, _, _, q, hq => by
    rw [List.append_nil] at hq
    exact hq
  | x :: l, acc, nd, ht, q, hq => by
    have hx : x ∉ acc := fun z => (List.nodup_append.mp nd).2.2 x z x (by simp) rfl
    have e : acc ++ x :: l = acc ++ [x] ++ l := by simp
    refine ht x (by simp) (fun c y => dcR f tg bYes ek ev δ (l.map .str) (putD (mapK h acc) c y) q) ?_
    show dcR f tg bYes ek ev δ (l.map .str) (putD (mapK h acc) (.inr x) (h x)) q
    rw [mapK_put h hx]
    exact dcR_map h l (acc ++ [x]) (by rw [← e]; exact nd) (fun y hy => ht y (List.mem_cons_of_mem _ hy)) q (by rw [← e]; exact hq)
theorem mapK_imm {h : Str → D} (hi : ∀ x, (h x).imm = true) (r : List Str) : immA ((mapK h r).map (·.2)) = true := by
  unfold mapK
  rw [List.map_map]
  exact immA_map (fun x => hi x) r
/-! ### the program's defs of groups -/
def depV (T : Tr) (d : Str → Str → Int) (x : Str) : D := .int ((lw T d (rootT T) x : Int) - 1)
def depK (T : Tr) (d : Str → Str → Int) (ks : List Str) : List (Key × D) := mapK (depV T d) ks
def sp_depths : SpT := fun ds e q => ∃ T d, ds = [treeD T] ∧ LTree T d ∧ ∀ ks, (∀ x ∈ T.names, x ∈ ks) → q (.dic (depK T d ks))
def sp_top : SpT := fun ds e q => ∃ T d ks g, ds = [.dic (depK T d ks), grpD g] ∧ (∀ x ∈ T.names, x ∈ ks) ∧ LTree T d ∧ IsGrp T d g ∧ ∀ t, IsTop T d (rootT T) g t → q (.str t)
def sp_meet : SpT := fun ds e q => ∃ g r d2, ds = [grpD g, d2] ∧ (d2 = strsD r ∨ d2 = grpD r) ∧ g.length ≤ 1000 ∧ q (.bl (g.any fun x => decide (x ∈ r)))
/-! _depths: some_tree 0, root 1, depths 2, name 3, ways 4, other 5, _ 6 -/
def N_depths : List Str := ["some_tree", "root", "depths", "name", "ways", "other", "_"]
def t_depths_1 : ST := (sRet (eVar 2))
def t_depths : ST := (sSeq (sSet 1 (eOp fIx (eCall sp_names_of (aCons (eVar 0) aNil)) (eC (.int 0))))
  (sSeq (sSet 2 (eDisp [((eVar 1), (eC (.int 0)))]))
  (sSeq (sForget [3, 4, 5, 6] (sFor (itItems (eCallM sp_away_from (aCons (eVar 0) (aCons (eVar 1) aNil)))) (tTup (fits 2 (tsCons (tName 3) (tsCons (tName 4) tsNil)))) (sForget [0, 1, 5, 6] (sFor (itSeq (eVar 4)) (tTup (fits 2 (tsCons (tName 5) (tsCons (tName 6) tsNil)))) (sAsg (eOp fAdd (eOp fIx (eVar 2) (eVar 3)) (eC (.int 1))) (tSub 2 (eVar 5))) [0, 1, 4, 5, 6])) [0, 1, 3, 4, 5, 6]))
  t_depths_1)))
/-! _top: depths 0, group 1, name 2 -/
def N_top : List Str := ["depths", "group", "name"]
def t_top : ST := (sRet (eOp fIx (eCB (fBest ltP) (aCons (eLc (itSeq (eVar 1)) [2] (tName 2) bYes (eTup (iCons (eOp fIx (eVar 0) (eVar 2)) (iCons (eVar 2) aNil)))) aNil)) (eC (.int 1))))
/-! _meet: first 0, second 1, name 2 -/
def N_meet : List Str := ["first", "second", "name"]
def t_meet : ST := (sRet (eCB fAny (aCons (eLc (itSeq (eVar 0)) [2] (tName 2) bYes (eCmp (fIn false) (eVar 2) (eVar 1))) aNil)))
/-! top_of: some_tree 0, group 1 -/
def N_top_of : List Str := ["some_tree", "group"]
def t_top_of : ST := (sRet (eCall sp_top (aCons (eCall sp_depths (aCons (eVar 0) aNil)) (aCons (eVar 1) aNil))))
/-! hit: some_tree 0, groups 1, depths 2, tops 3, taken 4, kept 5, _ 6, top 7, index 8, group 9 -/
def N_hit : List Str := ["some_tree", "groups", "depths", "tops", "taken", "kept", "_", "top", "index", "group"]
def t_hit_1 : ST := (sRet (eTupF (iConsF (eCB fSorted (aCons (eVar 4) aNil)) (iConsF (eCB fSorted (aCons (eVar 5) aNil)) aNil))))
def t_hit : ST := (sSeq (sSet 2 (eCall sp_depths (aCons (eVar 0) aNil)))
  (sSeq (sSet 3 (eLc (itSeq (eVar 1)) [9] (tName 9) bYes (eCall sp_top (aCons (eVar 2) (aCons (eVar 9) aNil)))))
  (sSeq (sSet 4 (eLst aNil))
  (sSeq (sSet 5 (eLst aNil))
  (sSeq (sFrz 3 (sForget [0, 6, 7, 8] (sFor (itSeq (eCB fSorted (aCons (eLc (itEnum (iCons (eVar 3) aNil)) [8, 7] (tTup (fits 2 (tsCons (tName 8) (tsCons (tName 7) tsNil)))) bYes (eTup (iCons (eNeg (eOp fIx (eVar 2) (eVar 7))) (iCons (eVar 7) (iCons (eVar 8) aNil))))) aNil))) (tTup (fits 3 (tsCons (tName 6) (tsCons (tName 7) (tsCons (tName 8) tsNil))))) (sIf (bNot (bVal (eCall sp_meet (aCons (eOp fIx (eVar 1) (eVar 8)) (aCons (eVar 4) aNil))))) (sSeq (sApp 4 (eVar 7))
  (sApp 5 (eVar 8))) sNext) [0, 2, 3, 6, 7, 8])))
  t_hit_1)))))
theorem len_depths : ∀ ds e q, sp_depths ds e q → ds.length = ["some_tree"].length := by
  rintro _ e q ⟨T, d, rfl, _⟩
  rfl
theorem len_top : ∀ ds e q, sp_top ds e q → ds.length = ["depths", "group"].length := by
  rintro _ e q ⟨T, d, ks, g, rfl, _⟩
  rfl
theorem len_meet : ∀ ds e q, sp_meet ds e q → ds.length = ["first", "second"].length := by
  rintro _ e q ⟨g, r, d2, rfl, _⟩
  rfl
theorem len_top_of : ∀ ds e q, sp_top_of ds e q → ds.length = ["some_tree", "group"].length := by
  rintro _ e q ⟨T, d, g, rfl, _⟩
  rfl
theorem len_hit : ∀ ds e q, sp_hit ds e q → ds.length = ["some_tree", "groups"].length := by
  rintro _ e q ⟨T, d, g, rfl, _⟩
  rfl
theorem LTree.n12 {T : Tr} {d : Str → Str → Int} (L : LTree T d) : T.names.length ≤ 12 := by
  rw [Tr.names, List.length_map]
  exact L.len.2
theorem far_dep {T : Tr} {d : Str → Str → Int} {s : Str} {done : List Str} {more far : List (Str × Int)} (h : FarTo T d (fun x => (lw T d (rootT T) x : Int) - 1) s done more far) : farD far = .dic (depK T d (keysF far)) := by
  unfold farD depK mapK keysF
  rw [List.map_map]
  refine congrArg D.dic (List.map_congr_left fun p hp => ?_)
  show _ = ((.inr p.1 : Key), depV T d p.1)
  rw [h.val p.1 p.2 hp] <;> rfl
theorem m_depths : ∀ ds e q, sp_depths ds e q → t_depths { nx := fun _ => q .non, rt := q, xe := fun x _ => e x } (startD N_depths ds) := by
  rintro _ e q ⟨T, d, rfl, L, h⟩
  have M := L.met
  have hsm := L.small
  obtain ⟨hs, wo, e0⟩ := root_in L
  have en : T.names[0]? = some (rootT T) := by rw [Tr.names, List.getElem?_map, e0] <;> rfl
  refine ⟨T, rfl, hsm, .str (rootT T), at_map D.str en, ?_⟩
  refine ⟨show 1 ≤ 15 by decide, ?_⟩
  refine ⟨treeA_args T (rootT T), T, T, d, rootT T, rfl, ⟨M, fun _ _ => rfl⟩, hsm, hsm, hs, fun ks hk => ⟨rfl, ?_⟩⟩
  show forR .wk _ _ _ _ (itemsD (kmap ks (awayD T d (rootT T)))) _
  rw [items_ways]
  generalize hV : (fun x => (lw T d (rootT T) x : Int) - 1) = V
  have V0 : V (rootT T) = 0 := by
    rw [← hV]
    show (lw T d (rootT T) (rootT T) : Int) - 1 = 0
    rw [M.lw_root hs] <;> rfl
  refine forR_map (fun x => D.tup [.str x, awayD T d (rootT T) x]) (fun r δ => ∃ done, ks = done ++ r ∧ ∃ x0 x1 far, δ = [x0, x1, .ow (farD far), .un, .un, .un, .un] ∧ FarTo T d V (rootT T) done [] far) ?_ ?_ ks _ ⟨[], rfl, _, _, [(rootT T, V (rootT T))], by rw [V0] <;> rfl, FarTo.start⟩
  · rintro δ ⟨done, ek, x0, x1, far, rfl, hf⟩
    rw [List.append_nil] at ek
    subst ek
    refine ⟨?_, ?_⟩
    · show immA ((far.map fun p => ((.inr p.1 : Key), D.int p.2)).map (·.2)) = true
      rw [List.map_map]
      exact immA_map (fun _ => rfl) _
    · subst hV
      show q (farD far)
      rw [far_dep hf]
      exact h _ fun x hx => (hf.all M hs hk x).mpr hx
  · rintro x r δ nx ⟨done, ek, x0, x1, far, rfl, hf⟩ hnx
    refine ⟨rfl, ?_⟩
    refine forR_map nodeD (fun q δ => ∃ more, T.away d (rootT T) x = more ++ q ∧ ∃ x0 x1 x4 far, δ = [x0, x1, .ow (farD far), .sh (.str x), x4, .un, .un] ∧ FarTo T d V (rootT T) done more far) ?_ ?_ (T.away d (rootT T) x) _ ⟨[], rfl, _, _, _, far, rfl, hf⟩
    · rintro δ ⟨more, em, x0, x1, x4, far', rfl, hf'⟩
      rw [List.append_nil] at em
      subst em
      exact hnx _ ⟨done ++ [x], by rw [ek]; simp, .un, .un, far', rfl, hf'.next⟩
    · rintro ⟨y, l⟩ q δ nx' ⟨more, em, x0, x1, x4, far', rfl, hf'⟩ hnx'
      have hn := hf'.new M hs (hk.notDone ek) em
      have hl : (y, l) ∈ T.away d (rootT T) x := by rw [em]; simp
      refine ⟨rfl, .int (V x), hf'.got (hf'.key hk ek), (fun z => nomatch z), ?_, ?_⟩
      · show (far'.map fun p => ((.inr p.1 : Key), D.int p.2)).length < sizeLine
        rw [List.length_map]
        exact lt1000 (Nat.le_trans (hf'.size M hs em) hsm.1)
      · refine hnx' _ ⟨more ++ [(y, l)], by rw [em]; simp, .un, .un, .un, far' ++ [(y, V y)], ?_, hf'.put hn⟩
        show [Sl.un, .un, .ow (.dic (putD (far'.map fun p => (.inr p.1, .int p.2)) (.inr y) (.int (V x + 1)))), .sh (.str x), .un, .un, .un] = _
        have e1 : V x + 1 = V y := by
          rw [← hV]
          have := M.lw_step hs hl
          show (lw T d (rootT T) x : Int) - 1 + 1 = (lw T d (rootT T) y : Int) - 1
          omega
        rw [putD_map hn, e1] <;> rfl
theorem best_dep {T : Tr} {d : Str → Str → Int} {g : List Str} {x : D} (h : bestD ltP (g.map fun y => D.tup [depV T d y, .str y]) = some x) : ∃ t, x = .tup [depV T d t, .str t] ∧ IsTop T d (rootT T) g t := by
  obtain ⟨t, ht, rfl⟩ := List.mem_map.mp (bestD_mem h)
  refine ⟨t, rfl, ht, fun y hy => ?_⟩
  have := min_best h _ (List.mem_map.mpr ⟨y, hy, rfl⟩)
  rw [ltD_tup (ds := [depV T d y, .str y]) (es := [depV T d t, .str t]) rfl rfl rfl] at this
  have this : lexS (.inl ((lw T d (rootT T) y : Int) - 1) :: [.inr y.cps.toList]) (.inl ((lw T d (rootT T) t : Int) - 1) :: [.inr t.cps.toList]) = false := this
  by_cases e : ((lw T d (rootT T) y : Int) - 1) = (lw T d (rootT T) t : Int) - 1
  · omega
  · rw [lexS, if_neg (fun z => e (Sum.inl.inj z))] at this
    have : ¬ ((lw T d (rootT T) y : Int) - 1) < (lw T d (rootT T) t : Int) - 1 := of_decide_eq_false this
    omega
theorem IsGrp.len {T : Tr} {d : Str → Str → Int} {g : List Str} (L : LTree T d) (G : IsGrp T d g) : g.length ≤ 12 :=
  Nat.le_trans (len_of_sub G.2.1.nd fun x hx => G.2.2.1 x hx) L.n12
theorem m_top : ∀ ds e q, sp_top ds e q → t_top { nx := fun _ => q .non, rt := q, xe := fun x _ => e x } (startD N_top ds) := by
  rintro _ e q ⟨T, d, ks, g, rfl, hks, L, G, h⟩
  have gl := G.len L
  refine ⟨⟨⟨trivial, trivial⟩, by rw [List.length_map]; exact line1000 (by omega)⟩, ?_⟩
  refine lcR_all D.str (fun x => .tup [depV T d x, .str x]) g (fun x hx A hA => ?_) _ ?_
  · exact ⟨depV T d x, mapK_look _ (hks x (G.2.2.1 x hx)), (show 2 ≤ sizeLine by decide), hA⟩
  · have bo : BestOk (g.map fun x => D.tup [depV T d x, .str x]) := by
      have := bestOk_tups (ts := g.map fun x => [depV T d x, .str x]) (sh := [true, false]) (fun z => G.1 (List.map_eq_nil_iff.mp z)) fun ds hds => by
        obtain ⟨x, hx, rfl⟩ := List.mem_map.mp hds
        refine ⟨rfl, rfl, fun y hy => ?_⟩
        rcases List.mem_cons.mp hy with rfl | hy
        · rfl
        · rw [List.mem_singleton.mp hy]
          exact nm_strOk (L.nm x (G.2.2.1 x hx))
      rw [List.map_map] at this
      exact this
    refine ⟨bo, fun b hb => ?_⟩
    obtain ⟨t, rfl, ht⟩ := best_dep hb
    exact ⟨.str t, rfl, rfl, h t ht⟩
theorem m_meet : ∀ ds e q, sp_meet ds e q → t_meet { nx := fun _ => q .non, rt := q, xe := fun x _ => e x } (startD N_meet ds) := by
  rintro _ e q ⟨g, r, d2, rfl, hr, gl, h⟩
  refine ⟨⟨⟨trivial, trivial⟩, by rw [List.length_map]; exact line1000 gl⟩, ?_⟩
  refine lcR_all D.str (fun x => .bl (decide (x ∈ r))) g (fun x hx A hA => ?_) _ ?_
  · rcases hr with rfl | rfl
    · refine ⟨⟨rfl, flat_strs _⟩, ?_⟩
      show A (.bl (inD (.str x) (r.map .str)))
      rw [inD_strs]
      exact hA
    · refine ⟨⟨rfl, flat_strs _⟩, ?_⟩
      show A (.bl (inD (.str x) (r.map .str)))
      rw [inD_strs]
      exact hA
  · refine ⟨_, allB_map _ _, rfl, ?_⟩
    show q (.bl ((g.map fun x => decide (x ∈ r)).any _root_.id))
    rw [List.any_map]
    exact h
theorem m_top_of : ∀ ds e q, sp_top_of ds e q → t_top_of { nx := fun _ => q .non, rt := q, xe := fun x _ => e x } (startD N_top_of ds) := by
  rintro _ e q ⟨T, d, g, rfl, L, G, h⟩
  exact ⟨T, d, rfl, L, fun ks hks => ⟨T, d, ks, g, rfl, hks, L, G, fun t ht => ⟨rfl, h t ht⟩⟩⟩
/-! ### hit -/
theorem enumD_mapG {α : Type} (g : α → D) : ∀ (i : Nat) (l : List α), enumD i (l.map g) = (l.zipIdx i).map fun p => D.tup [.int (p.2 : Int), g p.1]
  | i, [] => rfl
  | i, a :: l => by
    rw [List.zipIdx_cons, List.map_cons, List.map_cons]
    show _ :: enumD (i + 1) (l.map g) = _
    rw [enumD_mapG g (i + 1) l]
noncomputable def prow (T : Tr) (d : Str → Str → Int) (gs : List (List Str)) (k : Nat) : D := .tup [.int (-((lw T d (rootT T) (topAt T d (rootT T) gs k) : Int) - 1)), .str (topAt T d (rootT T) gs k), .int (k : Int)]
theorem prow_le (T : Tr) (d : Str → Str → Int) (gs : List (List Str)) (i j : Nat) : leD (prow T d gs i) (prow T d gs j) = leD (rowAt T d (rootT T) gs i) (rowAt T d (rootT T) gs j) := by
  unfold leD
  have key : ∀ (a b : Int) (r s : List (Int ⊕ List Nat)), lexS (.inl (-(a - 1)) :: r) (.inl (-(b - 1)) :: s) = lexS (.inl (0 - a) :: r) (.inl (0 - b) :: s) := fun a b r s => by
    by_cases e : a = b
    · subst e
      rw [lexS, lexS, if_pos rfl, if_pos rfl]
    · rw [lexS, lexS, if_neg (fun z => e (by have := Sum.inl.inj z; omega)), if_neg (fun z => e (by have := Sum.inl.inj z; omega))]
      show decide (-(a - 1) < -(b - 1)) = decide (0 - a < 0 - b)
      by_cases c : b < a
      · rw [decide_eq_true (by omega), decide_eq_true (by omega)]
      · rw [decide_eq_false (by omega), decide_eq_false (by omega)]
  exact congrArg (!·) (key _ _ _ _)
theorem prow_sort (T : Tr) (d : Str → Str → Int) (gs : List (List Str)) : sortD ((List.range gs.length).map (prow T d gs)) = (ordG T d (rootT T) gs).map (prow T d gs) := by
  unfold ordG sortD
  rw [List.map_mergeSort (f := prow T d gs) (s := leD) (r := fun i j => leD (rowAt T d (rootT T) gs i) (rowAt T d (rootT T) gs j)) fun i _ j _ => (prow_le T d gs i j).symm]
theorem prow_zip (T : Tr) (d : Str → Str → Int) (gs : List (List Str)) :
    ((gs.zipIdx 0).map fun p => D.tup [.int (-((lw T d (rootT T) (topC T d (rootT T) p.1) : Int) - 1)), .str (topC T d (rootT T) p.1), .int (p.2 : Int)]) = (List.range gs.length).map (prow T d gs) := by
  apply List.ext_getElem?
  intro i
  rw [List.getElem?_map, List.getElem?_map, List.getElem?_zipIdx]
  by_cases h : i < gs.length
  · rw [List.getElem?_range h, grp_at h, Nat.zero_add]
    rfl
  · rw [List.getElem?_eq_none (by omega : gs.length ≤ i), List.getElem?_eq_none (by rw [List.length_range]; omega)]
    rfl
theorem immA_mem : ∀ {ds : List D}, (∀ x ∈ ds, x.imm = true) → immA ds = true
  | [], _ => rfl
  | d :: ds, h => by rw [immA, h d (by simp), immA_mem fun x hx => h x (List.mem_cons_of_mem _ hx)] <;> rfl
theorem hit_1 {T : Tr} {d : Str → Str → Int} (L : LTree T d) {gs : List (List Str)} (F : Fam T d gs) {x0 x1 x2 x3 x6 x7 x8 x9 : Sl} {E : En} (hE : E.rt (toldD T d (rootT T) gs)) :
    t_hit_1 E [x0, x1, x2, x3, .ow (.lst ((toldH T d (rootT T) gs).1.map .str)), .ow (.lst (natsD (toldH T d (rootT T) gs).2)), x6, x7, x8, x9] := by
  refine ⟨srtbT _, immA_mem fun x hx => ?_, nats_srtb _, immA_mem fun x hx => ?_, (show 2 ≤ sizeLine by decide), rfl, hE⟩
  · obtain ⟨s, hs, rfl⟩ := List.mem_map.mp ((sortD_perm _).mem_iff.mp hx)
    rfl
  · obtain ⟨s, hs, rfl⟩ := List.mem_map.mp ((sortD_perm _).mem_iff.mp hx)
    rfl
theorem any_none {g tk : List Str} : (g.any fun x => decide (x ∈ tk)) = false ↔ ∀ x ∈ g, x ∉ tk := by
  rw [List.any_eq_false]
  exact ⟨fun h x hx z => h x hx (decide_eq_true z), fun h x hx z => h x hx (of_decide_eq_true z)⟩
theorem m_hit : ∀ ds e q, sp_hit ds e q → t_hit { nx := fun _ => q .non, rt := q, xe := fun x _ => e x } (startD N_hit ds) := by
  rintro _ e q ⟨T, d, gs, rfl, L, F, h⟩
  have M := L.met
  have g12 := F.1
  have lg : (gs.map grpD).length ≤ sizeLine := by rw [List.length_map]; exact line1000 (by omega)
  refine ⟨T, d, rfl, L, fun ks hks => ?_⟩
  refine ⟨⟨⟨trivial, trivial⟩, lg⟩, ?_⟩
  refine lcR_all grpD (fun g => .str (topC T d (rootT T) g)) gs (fun g hg A hA => ?_) _ ?_
  · refine ⟨T, d, ks, g, rfl, hks, L, F.2 g hg, fun t ht => ?_⟩
    have e2 : topC T d (rootT T) g = t := M.top_eq (root_in L).1 (F.2 g hg).2.2.1 (F.2 g hg).2.2.2 (topC_ok ht) ht
    rw [e2] at hA
    exact hA
  refine ⟨Nat.zero_le _, Nat.zero_le _, ?_⟩
  refine ⟨⟨⟨trivial, trivial, trivial⟩, by rw [enumD_len, List.length_map]; exact line1000 (by omega)⟩, ?_⟩
  show lcR _ _ _ _ [.un, .sh (.lst (gs.map grpD)), .fr (.dic (depK T d ks)), .sh (.lst (gs.map fun g => .str (topC T d (rootT T) g))), .ow (.lst []), .ow (.lst []), .un, .un, .un, .un] (enumD 0 (gs.map fun g => .str (topC T d (rootT T) g))) _
  rw [enumD_mapG]
  refine lcR_all (fun p : List Str × Nat => D.tup [.int (p.2 : Int), .str (topC T d (rootT T) p.1)]) (fun p => D.tup [.int (-((lw T d (rootT T) (topC T d (rootT T) p.1) : Int) - 1)), .str (topC T d (rootT T) p.1), .int (p.2 : Int)]) (gs.zipIdx 0) (fun p hp A hA => ?_) _ ?_
  · have hg : p.1 ∈ gs := List.fst_mem_of_mem_zipIdx hp
    obtain ⟨t, ht⟩ := top_some (T := T) (d := d) (o := rootT T) (F.2 _ hg).1
    have tn : topC T d (rootT T) p.1 ∈ T.names := (F.2 _ hg).2.2.1 _ (topC_ok ht).1
    refine ⟨rfl, ?_⟩
    have lk : lookD (depK T d ks) (.inr (topC T d (rootT T) p.1)) = some (depV T d (topC T d (rootT T) p.1)) := mapK_look _ (hks _ tn)
    refine ⟨depV T d (topC T d (rootT T) p.1), lk, ?_⟩
    refine ⟨(show 3 ≤ sizeLine by decide), ?_⟩
    exact hA
  rw [prow_zip]
  refine ⟨.inr ⟨true, [false, true], fun x hx => ?_⟩, ?_⟩
  · obtain ⟨k, _, rfl⟩ := List.mem_map.mp hx
    exact ⟨_, rfl, rfl, rfl⟩
  show forR _ _ _ _ _ (sortD ((List.range gs.length).map (prow T d gs))) _
  rw [prow_sort]
  have lo : ∀ k ∈ ordG T d (rootT T) gs, k < gs.length := fun k hk => List.mem_range.mp ((ordG_perm T d (rootT T) gs).mem_iff.mp hk)
  have ll : (ordG T d (rootT T) gs).length = gs.length := by rw [(ordG_perm T d (rootT T) gs).length_eq, List.length_range]
  refine forR_map (prow T d gs) (fun r δ => ∃ x2 x3 tk kp, δ = [.un, .sh (.lst (gs.map grpD)), x2, x3, .ow (.lst (tk.map .str)), .ow (.lst (natsD kp)), .un, .un, .un, .un] ∧ toldH T d (rootT T) gs = takes (topAt T d (rootT T) gs) (grpAt gs) r tk kp ∧ (∀ k ∈ r, k < gs.length) ∧ tk.length + r.length ≤ 100 ∧ kp.length + r.length ≤ 100) ?_ ?_ _ _ ⟨_, _, [], [], rfl, rfl, lo, by rw [ll]; show 0 + _ ≤ _; omega, by rw [ll]; show 0 + _ ≤ _; omega⟩
  · rintro δ ⟨x2, x3, tk, kp, rfl, ht, _⟩
    have ht : toldH T d (rootT T) gs = (tk, kp) := ht
    have e1 : tk = (toldH T d (rootT T) gs).1 := by rw [ht]
    have e2 : kp = (toldH T d (rootT T) gs).2 := by rw [ht]
    rw [e1, e2]
    exact hit_1 L F h
  · rintro k r δ nx ⟨x2, x3, tk, kp, rfl, ht, hr, l1, l2⟩ hnx
    have hk := hr k (by simp)
    have hr' : ∀ j ∈ r, j < gs.length := fun j hj => hr j (List.mem_cons_of_mem _ hj)
    rw [List.length_cons] at l1 l2
    have G := F.at_ hk
    have gl := G.len L
    refine ⟨rfl, grpD (grpAt gs k), at_map grpD (grp_at hk), grpAt gs k, tk, _, rfl, .inl rfl, by omega, ?_⟩
    show if (!((grpAt gs k).any fun x => decide (x ∈ tk))) = true then _ else _
    by_cases c : ∀ x ∈ grpAt gs k, x ∉ tk
    · rw [any_none.mpr c]
      refine itT ⟨by rw [List.length_map]; exact lt1000 (by omega), by unfold natsD; rw [List.length_map]; exact lt1000 (by omega), hnx _ ⟨.un, .un, tk ++ [topAt T d (rootT T) gs k], kp ++ [k], ?_, ?_, hr', by rw [List.length_append, List.length_singleton]; omega, by rw [List.length_append, List.length_singleton]; omega⟩⟩
      · unfold natsD
        rw [List.map_append, List.map_append]
        rfl
      · rw [ht]
        conv => lhs; unfold takes
        rw [if_pos c]
    · have ct : ((grpAt gs k).any fun x => decide (x ∈ tk)) = true := by
        cases z : (grpAt gs k).any fun x => decide (x ∈ tk) with
        | true => rfl
        | false => exact absurd (any_none.mp z) c
      rw [ct]
      refine itF (hnx _ ⟨.un, .un, tk, kp, rfl, ?_, hr', by omega, by omega⟩)
      rw [ht]
      conv => lhs; unfold takes
      rw [if_neg c]
end DL

set_option Elab.async false
set_option linter.all false
set_option maxRecDepth 100000
/-! d.get(k, x); d[k] op= e; sum(d.values()); x in a list of rows -/
namespace DL
open PySem PySem.Spec PyProof.Rows L2
/-! ### d.get(k, x) -/
def D.isDic : D → Bool
  | .dic _ => true
  | .dtp _ => true
  | _ => false
def fGet2 (x y : D) (k : D → Prop) (dflt : Prop) : Prop := match x, y with
  | .dic kds, .str s => (∀ d, lookD kds (.inr s) = some d → k d) ∧ (lookD kds (.inr s) = none → dflt)
  | .dic kds, .int i => (∀ d, lookD kds (.inl i) = some d → k d) ∧ (lookD kds (.inl i) = none → dflt)
  | .dtp kvs, .ktp ks => (∀ c, lookT kvs ks = some c → k (keyToD c)) ∧ (lookT kvs ks = none → dflt)
  | _, _ => False
def eGet2 (ta tb tc : ET) : ET := fun e δ q => ta e δ fun _ x => x.isDic = true ∧ tb e δ fun _ y => tc e δ fun g z => g.put (fGet2 x y (q .fz) (q .fz z))
theorem isD_of {K : PySem.W.Frag} {H Z : Hp} {d : D} {v : V} (h : d.isDic = true) (r : BRep K H Z d v) : ∃ a, v = .ref a ∧ IsD H a := by
  cases d with
  | dic kds =>
    obtain ⟨a, kvs, e, r, _⟩ := r
    exact ⟨a, e, .inl ⟨_, r⟩⟩
  | dtp kvs =>
    obtain ⟨a, e, r⟩ := r
    exact ⟨a, e, .inr ⟨_, r⟩⟩
  | _ => exact nomatch h
section
variable {X : Cx} {W : WX} {o e f : Expr} {ta tb tc : ET} {apos cpos : Pos}
theorem get_dic {K : PySem.W.Frag} {B : Bs} {H : Hp} {δ : DSt} {σ : St} {kds : List (Key × D)} {kvs : List (Key × V)} {a : Addr} {c : Key} {z : V} {dz : D} {k : D → Prop} (hd : Rd H a (.dK kvs)) (rk : RepK K (Frz B H δ σ) none kds kvs) (rz : Rep K (Frz B H δ σ) none dz z)
    (h1 : ∀ d, lookD kds c = some d → k d) (h2 : lookD kds c = none → k dz) : ∃ o d, DGet H a (kV c) o ∧ Rep K (Frz B H δ σ) none d (o.getD z) ∧ k d := by
  refine ⟨valV kvs c, ?_⟩
  rcases RepK.look c rk with ⟨z1, z2⟩ | ⟨d, v, z1, z2, z3⟩
  · rw [z2]
    exact ⟨dz, .inl ⟨kvs, c, hd, rfl, z2.symm⟩, rz, h2 z1⟩
  · rw [z2]
    exact ⟨d, .inl ⟨kvs, c, hd, rfl, z2.symm⟩, z3, h1 d z1⟩
theorem de_get2 (hu : X.A.units + 1 < cLine) (ho : DE X W o ta) (he : DE X W e tb) (hf : DE X W f tc) (m : M2 X o "get" apos e f cpos := by exact ⟨rfl, rfl, rfl, rfl⟩) : DE X W (.Call (.Attribute o "get" apos) [e, f] [] cpos) (eGet2 ta tb tc) := PE.imp (pe_dget2 hu ho he hf m) fun σ H Q => by
  rintro ⟨B, δ, e, q, r0, h, ok, bad⟩
  refine ⟨B, δ, e, _, r0, h, fun v1 H1 g1 d1 s1 R1 h1 => ?_, bad⟩
  obtain ⟨a, rfl, hD⟩ := isD_of h1.1 (R1.toB r0)
  have r1 := r0.ext s1
  refine ⟨a, rfl, hD, B, δ, e, _, r1, h1.2, fun v2 H2 g2 d2 s2 R2 h2 => ?_, fun cls dx H' x s => bad cls dx H' x (s1.trans s)⟩
  have r2 := r1.ext s2
  refine ⟨B, δ, e, _, r2, h2, fun v3 H3 g3 d3 s3 R3 h3 => ?_, fun cls dx H' x s => bad cls dx H' x ((s1.trans s2).trans s)⟩
  obtain ⟨hg, h3⟩ := Tg.put_ne h3
  have rz := R3.toZ r2 hg
  have sA := (s1.trans s2).trans s3
  have b1 := ((R1.toB r0).same s2 (DRel.frz_ext s2)).same s3 (DRel.frz_ext s3)
  have b2 := (R2.toB r1).same s3 (DRel.frz_ext s3)
  unfold fGet2 at h3
  split at h3
  · obtain ⟨a', kvs, ea, hd, rk⟩ := b1
    cases ea
    cases (show v2 = .str _ from b2)
    obtain ⟨ov, dd, w1, w2, w3⟩ := get_dic (c := .inr _) (k := q .fz) hd rk rz h3.1 h3.2
    exact ⟨ov, w1, ok _ _ .fz dd sA w2 w3⟩
  · obtain ⟨a', kvs, ea, hd, rk⟩ := b1
    cases ea
    cases (show v2 = .int _ from b2)
    obtain ⟨ov, dd, w1, w2, w3⟩ := get_dic (c := .inl _) (k := q .fz) hd rk rz h3.1 h3.2
    exact ⟨ov, w1, ok _ _ .fz dd sA w2 w3⟩
  · rename_i kds ks _
    obtain ⟨a', ea, hd⟩ := b1
    cases ea
    obtain ⟨b, rfl, hb⟩ := b2
    refine ⟨valV (kvV kds) ks, .inr ⟨_, ks, b, hd, rfl, (cut_some.mp hb).2, rfl⟩, ?_⟩
    rw [lookT_val]
    cases c : lookT kds ks with
    | none => exact ok _ _ .fz _ sA rz (h3.2 c)
    | some k => exact ok _ _ .fz _ sA (keyToD_rep k) (h3.1 k c)
  · exact h3.elim
end
/-! ### x[k] op= e, x a slot's own dict, of ints -/
def sAugS (i : Nat) (op : Int → Int → Int) (tk t : ET) : ST := fun E δ => match getS δ i with
  | .ow (.dic kds) => tk (fun x => E.xe x δ) δ fun _ k => ∃ c n, keyD k = some c ∧ lookD kds c = some (.int n) ∧ t (fun x => E.xe x δ) δ fun _ y => ∃ m, y = .int m ∧ kds.length < sizeLine ∧ E.nx (setS δ i (.ow (.dic (putD kds c (.int (op n m))))))
  | .ow (.dtp kvs) => tk (fun x => E.xe x δ) δ fun _ k => ∃ ks n, k = .ktp ks ∧ lookT kvs ks = some (.inl n) ∧ t (fun x => E.xe x δ) δ fun _ y => ∃ m, y = .int m ∧ kvs.length < sizeLine ∧ E.nx (setS δ i (.ow (.dtp (putT kvs ks (.inl (op n m))))))
  | _ => False
section
variable {X : Cx} {W : WX} {b e : Expr} {tk ta : ET} {tpos pos xpos : Pos}
theorem augS_ok {op : Operator} {f : Int → Int → Int} {rd : V → V → Hp → VK → Prop} (i : Nat) {x : Str} (hu : X.A.units + 1 < cLine) (hk : DE X W b tk) (he : DE X W e ta) (hop : InOp X op rd) (hrd : ∀ n m H Q, Q (.int (f n m)) H → rd (.int n) (.int m) H Q)
    (hN : X.N[i]? = some x) (hv : Vis X.env.scope x) (hd : (x == ("__debug__" : Str)) = false) (hcd : (x == ("__classdict__" : Str)) = false)
    (ha : ∀ ov iv new, augStore b ov iv new = (do holding [new, ov, iv] (setItem ov iv new); release [new, ov, iv] []; pure .next)) : DS X W (.AugAssign (.Subscript (.Name x xpos) b tpos) op e pos) (sAugS i f tk ta) :=
  PS.imp (ps_daug hu (pv i hN hv hd hcd) hk he hop ha) fun N σ H ⟨B, δ, E, r, h, nx, rt, bk, ct, xe⟩ => by
  unfold sAugS at h
  split at h
  · rename_i kds hg
    obtain ⟨a, kvs, hi, ea, e1, e2⟩ := r.dic hg
    refine ⟨.ref a, ea, B, δ, fun x => E.xe x δ, _, r, h, fun v1 H1 g1 d1 s1 R1 ⟨c, n, ec, ln, h1⟩ => ?_, fun cls dx H' x s xr hx => xe cls dx δ σ H' x (r.ext s) (DRel.frz_ext s) xr hx⟩
    have r1 := r.ext s1
    have ev := keyD_rep ec ((R1.toB r).full (cut_le _ _))
    subst ev
    have rk1 := RepK.same (DRel.frz_ext s1) e2
    have gv : valV kvs c = some (.int n) := by
      rcases RepK.look c rk1 with ⟨z1, _⟩ | ⟨d, v, z1, z2, z3⟩
      · rw [z1] at ln
        cases ln
      · rw [z1] at ln
        cases ln
        rw [z2, (show v = .int n from z3)]
    refine ⟨a, .int n, rfl, .inl ⟨kvs, c, .inl (s1 _ _ e1), rfl, gv.symm⟩, ?_⟩
    refine ⟨B, δ, fun x => E.xe x δ, _, r1, h1, fun v2 H2 g2 d2 s2 R2 ⟨m, em, lt, h2⟩ => ?_, fun cls dx H' x s xr hx => xe cls dx δ σ H' x (r1.ext s) ((DRel.frz_ext s1).trans (DRel.frz_ext s)) xr hx⟩
    subst em
    cases (show v2 = .int m from (R2.toB r1).int)
    have s12 := s1.trans s2
    refine hrd n m H2 _ ⟨upd H2 a (.dK (putK kvs c (.int (f n m)))), .inl ⟨kvs, c, s12 _ _ e1, rfl, by rw [RepK.len e2]; exact lt, rfl⟩, ?_⟩
    obtain ⟨r', s'⟩ := (r.ext s12).mut (o' := .dK (putK kvs c (.int (f n m)))) (d' := .dic (putD kds c (.int (f n m)))) hi ea ⟨_, upd_same, RepK.put c (d := .int (f n m)) rfl (RepK.same (DRel.frz_ext s12) e2)⟩
    exact nx _ _ _ r' ((DRel.frz_ext s12).trans s') h2
  · rename_i kvs hg
    obtain ⟨a, ea, nB, e1⟩ := r.sl i _ (getS_some hg (fun z => nomatch z))
    have hi := getS_some hg (fun z => nomatch z)
    have e1 : H a = some (.dT (kvV kvs)) := e1
    refine ⟨.ref a, ea, B, δ, fun x => E.xe x δ, _, r, h, fun v1 H1 g1 d1 s1 R1 ⟨ks, n, ek, ln, h1⟩ => ?_, fun cls dx H' x s xr hx => xe cls dx δ σ H' x (r.ext s) (DRel.frz_ext s) xr hx⟩
    have r1 := r.ext s1
    subst ek
    obtain ⟨p, rfl, hp⟩ := (R1.toB r : BRep X.K H1 (Frz B H1 δ σ) (.ktp ks) v1)
    have hp := (cut_some.mp hp).2
    refine ⟨a, .int n, rfl, .inr ⟨kvV kvs, ks, p, .inl (s1 _ _ e1), rfl, hp, by rw [lookT_val, ln] <;> rfl⟩, ?_⟩
    refine ⟨B, δ, fun x => E.xe x δ, _, r1, h1, fun v2 H2 g2 d2 s2 R2 ⟨m, em, lt, h2⟩ => ?_, fun cls dx H' x s xr hx => xe cls dx δ σ H' x (r1.ext s) ((DRel.frz_ext s1).trans (DRel.frz_ext s)) xr hx⟩
    subst em
    cases (show v2 = .int m from (R2.toB r1).int)
    have s12 := s1.trans s2
    have le : (kvV kvs).length = kvs.length := by unfold kvV; rw [List.length_map]
    refine hrd n m H2 _ ⟨upd H2 a (.dT (putK (kvV kvs) ks (.int (f n m)))), .inr ⟨kvV kvs, ks, p, s12 _ _ e1, rfl, s2 _ _ hp, by rw [le]; exact lt, rfl⟩, ?_⟩
    obtain ⟨r', s'⟩ := (r.ext s12).mut (o' := .dT (putK (kvV kvs) ks (.int (f n m)))) (d' := .dtp (putT kvs ks (.inl (f n m)))) hi ea (by
      show upd H2 a _ a = some (.dT (kvV (putT kvs ks (.inl (f n m)))))
      rw [upd_same, kvV_put] <;> rfl)
    exact nx _ _ _ r' ((DRel.frz_ext s12).trans s') h2
  · exact h.elim
theorem ds_augSAdd (i : Nat) {x : Str} (hu : X.A.units + 1 < cLine) (hk : DE X W b tk) (he : DE X W e ta) (hN : X.N[i]? = some x := by rfl) (hv : Vis X.env.scope x := by first | exact Or.inl rfl | exact Or.inr (Or.inl rfl) | exact Or.inr (Or.inr rfl)) (hd : (x == ("__debug__" : Str)) = false := by decide)
    (hcd : (x == ("__classdict__" : Str)) = false := by decide) (ha : ∀ ov iv new, augStore b ov iv new = (do holding [new, ov, iv] (setItem ov iv new); release [new, ov, iv] []; pure .next) := by intro _ _ _; rfl) : DS X W (.AugAssign (.Subscript (.Name x xpos) b tpos) .Add e pos) (sAugS i (· + ·) tk ta) :=
  augS_ok i hu hk he in_add (fun n m H Q q => ⟨n, m, rfl, rfl, q⟩) hN hv hd hcd ha
theorem ds_augSSub (i : Nat) {x : Str} (hu : X.A.units + 1 < cLine) (hk : DE X W b tk) (he : DE X W e ta) (hN : X.N[i]? = some x := by rfl) (hv : Vis X.env.scope x := by first | exact Or.inl rfl | exact Or.inr (Or.inl rfl) | exact Or.inr (Or.inr rfl)) (hd : (x == ("__debug__" : Str)) = false := by decide)
    (hcd : (x == ("__classdict__" : Str)) = false := by decide) (ha : ∀ ov iv new, augStore b ov iv new = (do holding [new, ov, iv] (setItem ov iv new); release [new, ov, iv] []; pure .next) := by intro _ _ _; rfl) : DS X W (.AugAssign (.Subscript (.Name x xpos) b tpos) .Sub e pos) (sAugS i (· - ·) tk ta) :=
  augS_ok i hu hk he in_sub (fun n m H Q q => ⟨n, m, rfl, rfl, q⟩) hN hv hd hcd ha
end
/-! ### x in ys, ys a list of rows -/
def fInR (neg : Bool) : F2b := fun x y q => match y with
  | .lst ds => (SeqAt.shaped x.py = true ∧ SeqAt.shaped (.list (pyA ds)) = true) ∧ q (if neg then !(pyA ds).any fun z => PyData.eqv z x.py else (pyA ds).any fun z => PyData.eqv z x.py)
  | _ => False
section
variable {X : Cx}
theorem snd_inR : Snd2b X.K (L2.rInD X.K) (fInR false) := by
  intro H Z x y d e q Q s hx hy h ok
  unfold fInR at h
  split at h
  · exact ⟨_, _, dp_of s hx h.1.1, dp_of (d := .lst _) s hy h.1.2, h.1.1, h.1.2, ok _ h.2⟩
  · exact h.elim
theorem snd_notInR : Snd2b X.K (rNotInD X.K) (fInR true) := by
  intro H Z x y d e q Q s hx hy h ok
  unfold fInR at h
  split at h
  · exact ⟨_, _, dp_of s hx h.1.1, dp_of (d := .lst _) s hy h.1.2, h.1.1, h.1.2, ok _ h.2⟩
  · exact h.elim
end
/-! ### sum(d.values()) -/
section
variable {X : Cx}
theorem preSum_sum (l : List Int) : PySem.preSum (fun i => (l[i]?).getD 0) l.length = l.sum := by
  have go : ∀ (l : List Int) (k : Nat), k ≤ l.length → PySem.preSum (fun i => (l[i]?).getD 0) k = (l.take k).sum := by
    intro l k
    induction k with
    | zero => intro _; rfl
    | succ k ih =>
      intro h
      show PySem.preSum _ k + (l[k]?).getD 0 = _
      rw [ih (by omega), List.take_add_one, List.sum_append]
      rw [List.getElem?_eq_getElem (by omega)]
      simp
  rw [go l l.length (Nat.le_refl _), List.take_length]
def rSumV (X : Cx) : List V → Hp → VK → Prop := fun vs H Q => ∃ (r d : Addr) (kvs : List (Key × V)) (ns : List Int), vs = [.ref r] ∧ H r = some (VwO d r) ∧ Rd H d (.dK kvs) ∧ kvs.map (·.2) = ns.map V.int ∧ Q (.int ns.sum) H
theorem cr_sumV (hc : X.calm = true) : CallR X (.builtin "sum") (rSumV X) := by
  rintro pins s σ H xs us Q I rv ⟨r, d, kvs, ns, rfl, hr, hd, en, q⟩
  rw [Vals.ref1 rv]
  have view : s.heap.IsValuesView r d := (I.hok r _ hr).1
  obtain ⟨small, n0, vs, kv, dd⟩ := dk_rd I.hok hd
  obtain ⟨ep, da⟩ : ∃ ep, s.heap.DictAt (mixKind X.prog X.w) d vs ep := let ⟨o, es, ep, r⟩ := dd; ⟨ep, o, es, r⟩
  have va := vals_at kv
  have ln : ns.length = vs.length := by
    have := congrArg List.length en
    rw [List.length_map, List.length_map] at this
    rw [← this]
    exact kv.length
  have KS := PySem.W.kdl_values (prog := X.prog) (w := X.w) (r := r) (d := d) (knd := mixKind X.prog X.w) (kvs := vs) (ep := ep)
  obtain ⟨oI, St, hit, W, st⟩ := KS.iter X.A.in1 s (I.ok.hd hc) ⟨view, da⟩
  refine call_sum_walkAnyS (hit _ _ ⟨s.heap.objs.size, _, _, _, _, _, _, fun i => (ns[i]?).getD 0, rfl, W.toS, st, fun b hb => ?_, fun i v P => ?_, fun s' t' m => ?_⟩)
  · show b < (s.heap.push oI).objs.size
    rw [size_push']
    rcases List.mem_cons.mp hb with e | hb
    · rw [e]; exact Nat.lt_succ_self _
    · rw [List.mem_singleton.mp hb]; exact Nat.lt_succ_of_lt (KS.there _ ⟨view, da⟩).2
  · obtain ⟨k, hP⟩ := P
    obtain ⟨x, ex, rx⟩ := vals_get' va (by rw [List.getElem?_map, hP] <;> rfl)
    rw [en, List.getElem?_map] at ex
    cases z : ns[i]? with
    | none =>
      rw [z] at ex
      cases ex
    | some n =>
      rw [z] at ex
      cases ex
      show ∃ t, v = .int ((ns[i]?).getD 0) t
      rw [z]
      exact rx
  · obtain ⟨h', tk, rfl, hk'⟩ := PySem.W.moved_old (s := s) rfl rfl m
    refine ⟨.int ns.sum, H, I.kept hk', ⟨t', ?_⟩, q⟩
    rw [← ln, preSum_sum]
end
section
variable {X : Cx} {W : WX} {e : Expr} {ta : ET} {p1 apos cpos pos : Pos}
def eSumV (ta : ET) : ET := fun e δ q => ta e δ fun _ x => match x with
  | .dic kds => ∃ ns, allI (kds.map (·.2)) = some ns ∧ q .fz (.int ns.sum)
  | _ => False
theorem de_sumV (hc : X.calm = true) (hg : Gl X "sum") (hm : X.mg "sum" = none) (ha : DE X W e ta) (hbase : attributeBase e "values" X.env (eval e X.env) = eval e X.env := by rfl) (hline : (apos.endLine == cpos.line) = true := by rfl)
    (he : starEach [.Call (.Attribute e "values" apos) [] [] cpos] X.env = (false, eval (.Call (.Attribute e "values" apos) [] [] cpos) X.env) :: starEach [] X.env := by rfl) : DE X W (.Call (.Name "sum" p1) [.Call (.Attribute e "values" apos) [] [] cpos] [] pos) (eSumV ta) :=
  PE.imp (pe_callB (cr_sumV hc) hg hm bt_sum (pa_cons (pe_vals ha hbase hline) pa_nil he) (by decide) (by decide) he) fun σ H Q => by
    rintro ⟨B, δ, e, q, r0, h, ok, bad⟩
    refine ⟨B, δ, e, _, r0, h, fun v H1 g x s1 R hq => ?_, bad⟩
    cases x with
    | dic kds =>
      obtain ⟨d, kvs, rfl, rd, rk⟩ := (R.toB r0 : BRep X.K H1 (Frz B H1 δ σ) (.dic kds) v)
      obtain ⟨ns, ei, hq⟩ := hq
      refine ⟨d, kvs, rfl, rd, fun r hr => ⟨r, d, kvs, ns, rfl, upd_same .., Same.rd (same_upd' hr) rd, allI_rep ei rk.vals, ?_⟩⟩
      exact ok _ _ .fz (.int _) (s1.trans (same_upd' (o := VwO d r) hr)) rfl hq
    | _ => exact hq.elim
end
theorem sw_trueD {kx vx : Expr} {gs : List Comprehension} {scope : Scope} {pos py : Pos} {y : Str} {l : Nat} {env : Env} (hk : env.scope.kind = .function) (hy : env.scope.names.lookup y = some .local) (hl : (py.line == pos.line) = true)
    (ha : (scope.names.any fun (n, k) => n == y && (k == .local || k == .cell)) = false) : swapsWith (.DictComp kx vx gs scope pos) (some (.Name y py)) l env = pure true := by
  have ky : env.kindOf y = some .local := hy
  have hb : env.blockKind = .function := by unfold Env.blockKind; rw [hk]; rfl
  unfold swapsWith
  simp only [hb, ky, ha, Expr.pos, hl]
  rfl
end DL

set_option Elab.async false
set_option linter.all false
set_option maxRecDepth 100000
namespace DL
open PySem PySem.Spec PyProof.Rows L2
/-! ### loads and flows -/
abbrev Ld := List (Str × Int)
def ldD (l : Ld) : D := .lst (l.map nodeD)
/-- what a load has at a node -/
def lv (l : Ld) (x : Str) : Int := ((l.filter fun p => decide (p.1 = x)).map (·.2)).sum
def moreV (f s : Ld) (x : Str) : Int := lv f x - lv s x
def sumL (l : Ld) : Int := (l.map (·.2)).sum
structure LdOk (T : Tr) (l : Ld) : Prop where
  nd : (l.map (·.1)).Nodup
  sub : ∀ p ∈ l, p.1 ∈ T.names
theorem lv_nil (x : Str) : lv [] x = 0 := rfl
theorem lv_cons (p : Str × Int) (l : Ld) (x : Str) : lv (p :: l) x = (if p.1 = x then p.2 else 0) + lv l x := by
  unfold lv
  rw [List.filter_cons]
  by_cases c : p.1 = x
  · rw [if_pos (decide_eq_true c), if_pos c, List.map_cons, List.sum_cons]
  · rw [if_neg (by rw [decide_eq_false c]; exact Bool.false_ne_true), if_neg c, Int.zero_add]
theorem lv_snoc (p : Str × Int) (l : Ld) (x : Str) : lv (l ++ [p]) x = lv l x + (if p.1 = x then p.2 else 0) := by
  induction l with
  | nil => rw [List.nil_append, lv_cons, lv_nil]; omega
  | cons a l ih => rw [List.cons_append, lv_cons, lv_cons, ih]; omega
theorem lv_none {l : Ld} {x : Str} (h : x ∉ l.map (·.1)) : lv l x = 0 := by
  induction l with
  | nil => rfl
  | cons p l ih =>
    rw [List.map_cons, List.mem_cons] at h
    rw [lv_cons, if_neg (fun z => h (.inl z.symm)), ih fun z => h (.inr z)]
    rfl
theorem lv_of {l : Ld} {x : Str} {n : Int} (nd : (l.map (·.1)).Nodup) (h : (x, n) ∈ l) : lv l x = n := by
  induction l with
  | nil => cases h
  | cons p l ih =>
    obtain ⟨n1, n2⟩ := List.nodup_cons.mp nd
    rw [lv_cons]
    rcases List.mem_cons.mp h with h | h
    · subst h
      rw [if_pos rfl, lv_none n1]
      exact Int.add_zero _
    · rw [if_neg (fun z => n1 (List.mem_map.mpr ⟨_, h, z.symm⟩)), ih n2 h]
      exact Int.zero_add _
theorem sum_ind {x : Str} {n : Int} : ∀ {l : List Str}, l.Nodup → x ∈ l → (l.map fun y => if x = y then n else 0).sum = n
  | [], _, h => nomatch h
  | y :: l, nd, h => by
    obtain ⟨n1, n2⟩ := List.nodup_cons.mp nd
    rw [List.map_cons, List.sum_cons]
    by_cases e : x = y
    · subst e
      have z : (l.map fun y => if x = y then n else 0) = l.map fun _ => (0 : Int) := List.map_congr_left fun w hw => if_neg fun (e : x = w) => n1 (by rw [e]; exact hw)
      have z2 : ∀ l : List Str, (l.map fun _ => (0 : Int)).sum = 0 := fun l => by
        induction l with
        | nil => rfl
        | cons a l ih => rw [List.map_cons, List.sum_cons, ih] <;> rfl
      rw [if_pos rfl, z, z2]
      exact Int.add_zero _
    · rw [if_neg e, sum_ind n2 ((List.mem_cons.mp h).resolve_left e)]
      exact Int.zero_add _
theorem sum_add {α : Type} (f g : α → Int) : ∀ l : List α, (l.map fun a => f a + g a).sum = (l.map f).sum + (l.map g).sum
  | [] => rfl
  | a :: l => by
    rw [List.map_cons, List.map_cons, List.map_cons, List.sum_cons, List.sum_cons, List.sum_cons, sum_add f g l]
    omega
theorem sum_neg {α : Type} (f : α → Int) : ∀ l : List α, (l.map fun a => - f a).sum = - (l.map f).sum
  | [] => rfl
  | a :: l => by
    rw [List.map_cons, List.map_cons, List.sum_cons, List.sum_cons, sum_neg f l]
    omega
theorem sum_lv {T : Tr} (nd : T.names.Nodup) : ∀ {l : Ld}, (∀ p ∈ l, p.1 ∈ T.names) → (T.names.map (lv l)).sum = sumL l
  | [], _ => by
    have z2 : ∀ l : List Str, (l.map (lv [])).sum = 0 := fun l => by
      induction l with
      | nil => rfl
      | cons a l ih => rw [List.map_cons, List.sum_cons, ih] <;> rfl
    exact z2 _
  | p :: l, h => by
    have e : T.names.map (lv (p :: l)) = T.names.map fun x => (if p.1 = x then p.2 else 0) + lv l x := List.map_congr_left fun x _ => lv_cons p l x
    rw [e, sum_add, sum_ind nd (h p (by simp)), sum_lv nd fun q hq => h q (List.mem_cons_of_mem _ hq)]
    rfl
theorem sum_more {T : Tr} (nd : T.names.Nodup) {f s : Ld} (hf : ∀ p ∈ f, p.1 ∈ T.names) (hs : ∀ p ∈ s, p.1 ∈ T.names) : (T.names.map (moreV f s)).sum = sumL f - sumL s := by
  have e : T.names.map (moreV f s) = T.names.map fun x => lv f x + -lv s x := List.map_congr_left fun x _ => Int.sub_eq_add_neg
  rw [e, sum_add, sum_neg, sum_lv nd hf, sum_lv nd hs]
  omega
/-- what goes over an edge, from its first node to its second one -/
def edgeN (T : Tr) (d : Str → Str → Int) (f s : Ld) (e : Str × Str × Int) : Int := ((lft T d e.1 e.2.1).map (moreV f s)).sum
def flowE (T : Tr) (d : Str → Str → Int) (f s : Ld) (e : Str × Str × Int) : Option (Str × Str × Int) :=
  if 0 < edgeN T d f s e then some (e.1, e.2.1, edgeN T d f s e) else if edgeN T d f s e < 0 then some (e.2.1, e.1, -edgeN T d f s e) else none
def flowL (T : Tr) (d : Str → Str → Int) (f s : Ld) : List (Str × Str × Int) := sort3 (T.edges.filterMap (flowE T d f s))
def flowD (T : Tr) (d : Str → Str → Int) (f s : Ld) : D := .lst ((flowL T d f s).map edgeD)
theorem flow_len {T : Tr} {d : Str → Str → Int} {f s : Ld} (L : LTree T d) : (flowL T d f s).length ≤ 12 := by
  unfold flowL
  rw [(sort3_perm _).length_eq]
  exact Nat.le_trans (List.length_filterMap_le _ _) L.elen
theorem mem_flow {T : Tr} {d : Str → Str → Int} {f s : Ld} {a b : Str} {n : Int} : (a, b, n) ∈ flowL T d f s ↔ ∃ e ∈ T.edges, flowE T d f s e = some (a, b, n) := by
  unfold flowL
  rw [(sort3_perm _).mem_iff, List.mem_filterMap]
theorem flow_adj {T : Tr} {d : Str → Str → Int} (M : Met T d) {f s : Ld} {a b : Str} {n : Int} (h : (a, b, n) ∈ flowL T d f s) : (∃ l, (b, l) ∈ T.adj a) ∧ 0 < n := by
  obtain ⟨⟨x, y, l⟩, he, e⟩ := mem_flow.mp h
  have ad := edge_adj he
  unfold flowE at e
  split at e
  · cases e
    rename_i c
    exact ⟨⟨l, ad⟩, c⟩
  · split at e
    · cases e
      rename_i c
      exact ⟨⟨l, M.sym ad⟩, by omega⟩
    · cases e
def routeX : DX := ⟨"RouteError", [("what", .str "other sum")]⟩
def sp_surplus : SpT := fun ds e q => ∃ T f s, ds = [treeD T, ldD f, ldD s] ∧ Small T ∧ T.names.Nodup ∧ LdOk T f ∧ LdOk T s ∧ q (.dic (mapK (fun x => .int (moreV f s x)) T.names))
def sp_flow : SpT := fun ds e q => ∃ T d f s, ds = [treeD T, ldD f, ldD s] ∧ LTree T d ∧ LdOk T f ∧ LdOk T s ∧ (sumL f ≠ sumL s → e routeX) ∧ (sumL f = sumL s → q (flowD T d f s))
def sp_law_flow : SpT := fun ds e q => ∃ T d f s, ds = [treeD T, ldD f, ldD s] ∧ LTree T d ∧ LdOk T f ∧ LdOk T s ∧ q (flowD T d f s)
/-! ### prices -/
def Flows (T : Tr) (d : Str → Str → Int) (f s : Ld) (x y : Str) : Prop := ∃ n, (x, y, n) ∈ flowL T d f s
open Classical in
/-- how the price changes along an edge -/
noncomputable def stepP (T : Tr) (d : Str → Str → Int) (f s : Ld) (x y : Str) (l : Int) : Int := (if Flows T d f s x y then -l else 0) + (if Flows T d f s y x then l else 0)
structure PriceOk (T : Tr) (d : Str → Str → Int) (f s : Ld) (P : Str → Int) : Prop where
  root : P (rootT T) = 0
  step : ∀ x y l, (y, l) ∈ T.away d (rootT T) x → P y = P x + stepP T d f s x y l
def priceD (P : Str → Int) (x : Str) : D := .tup [.str x, .int (P x)]
def sp_prices : SpT := fun ds e q => ∃ T d f s, ds = [treeD T, ldD f, ldD s] ∧ LTree T d ∧ LdOk T f ∧ LdOk T s ∧ (sumL f ≠ sumL s → e routeX) ∧ (sumL f = sumL s → ∃ P, PriceOk T d f s P ∧ q (.lst (T.names.map (priceD P))))
theorem pairD_ok {a b : Str} (ha : PyData.strOk a = true) (hb : PyData.strOk b = true) : (D.tup [.str a, .str b]).ok = true := by
  show (PyData.strOk a && (PyData.strOk b && true)) = true
  rw [ha, hb] <;> rfl
theorem in_ends {l : List (Str × Str × Int)} {x y : Str} (hx : PyData.strOk x = true) (hy : PyData.strOk y = true) (hl : ∀ e ∈ l, PyData.strOk e.1 = true ∧ PyData.strOk e.2.1 = true) {q : Bool → Prop} (h : ∀ b, (b = true ↔ ∃ n, (x, y, n) ∈ l) → q b) : fInR false (.tup [.str x, .str y]) (.lst (l.map endsD)) q := by
  have ok := pairD_ok hx hy
  have okl : (D.lst (l.map endsD)).ok = true := okA_map fun e he => pairD_ok (hl e he).1 (hl e he).2
  have depl : (D.lst (l.map endsD)).dep ≤ 64 := Nat.le_trans (Nat.succ_le_succ (depA_map (n := 1) fun x _ => Nat.le_refl 1)) (by decide)
  refine ⟨⟨ok_shaped ok (show 1 ≤ 64 by decide), ok_shaped okl depl⟩, h _ ?_⟩
  show (pyA (l.map endsD)).any (fun z => PyData.eqv z (D.tup [.str x, .str y]).py) = true ↔ _
  have ep : ∀ l : List (Str × Str × Int), pyA (l.map endsD) = l.map fun e => (endsD e).py := fun l => by
    induction l with
    | nil => rfl
    | cons a l ih => rw [List.map_cons, List.map_cons, pyA, ih]
  rw [ep, List.any_map, List.any_eq_true]
  constructor
  · rintro ⟨⟨a, b, n⟩, h1, h2⟩
    have h2 : PyData.eqv (endsD (a, b, n)).py (D.tup [.str x, .str y]).py = true := h2
    have := (eqv_ok _ _ (pairD_ok (hl _ h1).1 (hl _ h1).2) ok).mp h2
    obtain ⟨e1, e2⟩ := List.cons.inj (D.tup.inj this)
    cases e1
    obtain ⟨e3, _⟩ := List.cons.inj e2
    cases e3
    exact ⟨n, h1⟩
  · rintro ⟨n, hn⟩
    exact ⟨(x, y, n), hn, (eqv_ok _ _ ok ok).mpr rfl⟩
end DL

set_option Elab.async false
set_option linter.all false
set_option maxRecDepth 100000
/-! Ledgers by recursion: what is cut off, how many cuts, what is held. -/
namespace DL
open PySem PySem.Spec PyProof.Rows L2
/-- cut off in this order while too much is held -/
def cutP (b : Int) (f : Str → Int) : Int → List Str → List Str × Int
  | h, [] => ([], h)
  | h, y :: r => if b < h then (y :: (cutP b f (h - f y) r).1, (cutP b f (h - f y) r).2) else cutP b f h r
theorem cutP_le {b : Int} {f : Str → Int} {h : Int} (le : h ≤ b) : ∀ l : List Str, cutP b f h l = ([], h)
  | [] => rfl
  | y :: r => by rw [cutP, if_neg (by omega), cutP_le le r]
theorem cutP_cgr {b : Int} {f g : Str → Int} : ∀ {l : List Str} (h : Int), (∀ y ∈ l, f y = g y) → cutP b f h l = cutP b g h l
  | [], _, _ => rfl
  | y :: r, h, e => by
    rw [cutP, cutP, e y (by simp), cutP_cgr (l := r) (h - g y) fun z hz => e z (List.mem_cons_of_mem _ hz), cutP_cgr (l := r) h fun z hz => e z (List.mem_cons_of_mem _ hz)]
/-- what is cut is the first ones; what is held is the rest -/
theorem cutP_split {b : Int} {f : Str → Int} : ∀ (l : List Str) (h : Int), ∃ r, l = (cutP b f h l).1 ++ r ∧ (cutP b f h l).2 = h - sumM f (cutP b f h l).1 ∧ ((cutP b f h l).2 ≤ b ∨ r = [])
  | [], h => ⟨[], rfl, by show h = h - 0; omega, .inr rfl⟩
  | y :: l, h => by
    by_cases c : b < h
    · obtain ⟨r, e1, e2, e3⟩ := cutP_split l (h - f y)
      refine ⟨r, ?_, ?_, ?_⟩
      · rw [cutP, if_pos c]
        show y :: l = y :: ((cutP b f (h - f y) l).1 ++ r)
        rw [← e1]
      · rw [cutP, if_pos c]
        show (cutP b f (h - f y) l).2 = h - (f y + sumM f (cutP b f (h - f y) l).1)
        omega
      · rw [cutP, if_pos c]
        exact e3
    · rw [cutP_le (by omega)]
      exact ⟨y :: l, rfl, by show h = h - 0; omega, .inl (by show h ≤ b; omega)⟩
def kidsT (T : Tr) (d : Str → Str → Int) (s x : Str) : List Str := (T.away d s x).map (·.1)
/-- the order of cutting -/
def ordT (T : Tr) (d : Str → Str → Int) (s : Str) (f : Str → Int) (x : Str) : List Str := sortK (fun y => -(f y)) (kidsT T d s x)
abbrev Lg := List Str × Int × Int
def stepT (T : Tr) (d : Str → Str → Int) (s : Str) (b : Int) (v : Str → Lg) (x : Str) : Lg :=
  ((cutP b (fun y => (v y).2.2) (lv T.nodes x + sumM (fun y => (v y).2.2) (kidsT T d s x)) (ordT T d s (fun y => (v y).2.2) x)).1,
    ((cutP b (fun y => (v y).2.2) (lv T.nodes x + sumM (fun y => (v y).2.2) (kidsT T d s x)) (ordT T d s (fun y => (v y).2.2) x)).1.length : Int) + sumM (fun y => (v y).2.1) (kidsT T d s x),
    (cutP b (fun y => (v y).2.2) (lv T.nodes x + sumM (fun y => (v y).2.2) (kidsT T d s x)) (ordT T d s (fun y => (v y).2.2) x)).2)
def setR (T : Tr) (d : Str → Str → Int) (s : Str) (b : Int) : Nat → Str → Lg
  | 0, _ => ([], 0, 0)
  | n + 1, x => stepT T d s b (setR T d s b n) x
section
variable {T : Tr} {d : Str → Str → Int} {s x y : Str} {b : Int}
theorem mem_kids : y ∈ kidsT T d s x ↔ ∃ l, (y, l) ∈ T.away d s x := by
  unfold kidsT
  constructor
  · intro h
    obtain ⟨⟨a, l⟩, h1, rfl⟩ := List.mem_map.mp h
    exact ⟨l, h1⟩
  · rintro ⟨l, h⟩
    exact List.mem_map.mpr ⟨_, h, rfl⟩
theorem kids_nd (M : Met T d) : (kidsT T d s x).Nodup := away_nd M
theorem sortK_cgr {k k' : Str → Int} {l : List Str} (h : ∀ y ∈ l, k y = k' y) : sortK k l = sortK k' l := by
  have e : l.map (rankD k) = l.map (rankD k') := List.map_congr_left fun y hy => by unfold rankD; rw [h y hy]
  have m1 := sortK_map k l
  have m2 := sortK_map k' l
  rw [e, m2] at m1
  have p := sortK_perm k l
  have go : ∀ l1 l2 : List Str, l1.map (rankD k) = l2.map (rankD k') → l1 = l2 := fun l1 => by
    induction l1 with
    | nil =>
      intro l2 e
      cases l2 with
      | nil => rfl
      | cons _ _ => cases e
    | cons a l1 ih =>
      intro l2 e
      cases l2 with
      | nil => cases e
      | cons c l2 =>
        obtain ⟨e1, e2⟩ := List.cons.inj e
        have : a = c := by
          unfold rankD at e1
          have := D.tup.inj e1
          have := (List.cons.inj this).2
          exact D.str.inj (List.cons.inj this).1
        rw [this, ih l2 e2]
  exact go _ _ m1.symm
theorem stepT_cgr {v v' : Str → Lg} (h : ∀ y ∈ kidsT T d s x, v y = v' y) : stepT T d s b v x = stepT T d s b v' x := by
  unfold stepT ordT
  have h1 : ∀ y ∈ kidsT T d s x, (v y).2.2 = (v' y).2.2 := fun y hy => by rw [h y hy]
  rw [sumM_cgr (f := fun y => (v y).2.2) (g := fun y => (v' y).2.2) h1, sumM_cgr (f := fun y => (v y).2.1) (g := fun y => (v' y).2.1) fun y hy => by rw [h y hy],
    sortK_cgr (k := fun y => -((v y).2.2)) (k' := fun y => -((v' y).2.2)) fun y hy => by rw [h y hy], cutP_cgr (f := fun y => (v y).2.2) (g := fun y => (v' y).2.2) _ fun y hy => h1 y ((sortK_perm _ _).mem_iff.mp hy)]
theorem setR_fuel (M : Met T d) (hs : s ∈ T.names) : ∀ (n m : Nat) (x : Str), x ∈ T.names → (blw T d s x).length ≤ n → (blw T d s x).length ≤ m → setR T d s b n x = setR T d s b m x
  | 0, _, x, hx, h, _ => absurd (List.length_pos_of_mem (blw_self (s := s) M hx)) (by omega)
  | _ + 1, 0, x, hx, _, h => absurd (List.length_pos_of_mem (blw_self (s := s) M hx)) (by omega)
  | n + 1, m + 1, x, hx, h1, h2 => by
    unfold setR
    refine stepT_cgr fun y hy => ?_
    obtain ⟨l, hl⟩ := mem_kids.mp hy
    have := blw_lt M hs hl
    exact setR_fuel M hs n m y (away_mem M hl).2.1 (by omega) (by omega)
/-- the ledger's row of a node -/
def setV (T : Tr) (d : Str → Str → Int) (s : Str) (b : Int) (x : Str) : Lg := setR T d s b 13 x
theorem setV_eq (M : Met T d) (n12 : T.names.length ≤ 12) (hs : s ∈ T.names) (hx : x ∈ T.names) : setV T d s b x = stepT T d s b (setV T d s b) x := by
  have b12 : ∀ z, (blw T d s z).length ≤ 12 := fun z => Nat.le_trans (List.length_filter_le _ _) n12
  show stepT T d s b (setR T d s b 12) x = _
  refine stepT_cgr fun y hy => ?_
  obtain ⟨l, hl⟩ := mem_kids.mp hy
  exact setR_fuel M hs 12 13 y (away_mem M hl).2.1 (b12 y) (Nat.le_trans (b12 y) (by decide))
/-- what is held once all is cut off that must be -/
theorem held_le (M : Met T d) (n12 : T.names.length ≤ 12) (hs : s ∈ T.names) (hx : x ∈ T.names) : (setV T d s b x).2.2 ≤ b ↔ lv T.nodes x ≤ b ∨ (setV T d s b x).2.2 ≤ b := ⟨.inr, fun h => by
  rcases h with h | h
  · rw [setV_eq M n12 hs hx]
    unfold stepT
    obtain ⟨r, e1, e2, e3⟩ := cutP_split (b := b) (f := fun y => (setV T d s b y).2.2) (ordT T d s (fun y => (setV T d s b y).2.2) x) (lv T.nodes x + sumM (fun y => (setV T d s b y).2.2) (kidsT T d s x))
    rcases e3 with e3 | e3
    · exact e3
    · rw [e3, List.append_nil] at e1
      rw [← e1] at e2
      have p := sumM_perm (fun y => (setV T d s b y).2.2) (sortK_perm (fun y => -((setV T d s b y).2.2)) (kidsT T d s x))
      show (cutP _ _ _ _).2 ≤ b
      rw [e2]
      unfold ordT
      rw [p]
      omega
  · exact h⟩
end
end DL

set_option Elab.async false
set_option linter.all false
set_option maxRecDepth 100000
/-! name = {(..): .. for ..}; statements that are never reached -/
namespace DL
open PySem PySem.Spec PyProof.Rows L2
/-- what a statement asks that no run comes to -/
def sBad : ST := fun _ _ => False
section
variable {X : Cx} {W : WX} {it : IT} {g : GT} {ws : List Nat} {tst : BT} {elt : ET}
theorem dss_bad {sts : List Stmt} : DSs X W sts sBad := ⟨fun pins s σ H D I h => by
  obtain ⟨B, δ, E, r, h, _⟩ := h
  exact h.elim⟩
theorem ps_setDcT {i : Nat} {y : Str} {py : Pos} {kx vx tg iter : Expr} {ifs : List Expr} {scope : Scope} {own : List (Str × Nat)} {pos spos : Pos} {wi : TI} {g : TG} {tt : TT} {tk tv : TE} (hu : X.A.units + 1 < cLine) (hc : X.calm = true) (hN : X.N.Nodup) (hy : X.N[i]? = some y) (hyl : X.env.scope.names.lookup y = some .local)
    (hsw : swapsWith (.DictComp kx vx [⟨tg, iter, ifs, 0⟩] scope pos) (some (.Name y py)) spos.line X.env = pure true) (hi : PI X tg iter wi) (ok : BlkOk X.N X.env.scope scope own)
    (hg : InBlk X scope fun Y => PG Y tg g) (ht : InBlk X scope fun Y => PTs Y ifs tt)
    (hk : InBlk X scope fun Y => PE Y kx tk)
    (he : InBlk X scope fun Y => PE Y vx tv) (hs : ∀ x, foldedSetIterable iter X.env x = pure x := by intro _; rfl) :
    PS X (.Assign [.Name y py] (.DictComp kx vx [⟨tg, iter, ifs, 0⟩] scope pos) spos) (tAsg (tDcT wi g tt tk tv (own.map (·.2))) (gName i)) := by
  constructor
  intro ps s0 σ0 H0 E0 I0 h0
  rw [exec_Assign_Name_used (hs := hsw)]
  refine wpAny_bind (wpAny_standAt (wpAny_bind ?_))
  show wpAny _ X.A (comprehension (.DictComp kx vx [⟨tg, iter, ifs, 0⟩] scope pos) scope X.env (firstIterPos [⟨tg, iter, ifs, 0⟩] pos) newDict false (eval iter X.env) (some (assign (.Name y py) X.env)) >>= _) _ _ s0
  replace h0 : tDcT wi g tt tk tv (own.map (·.2)) σ0 H0 fun x H1 => gName i x σ0 H1 E0.nx := h0
  have last : ∀ (L C : Addr) (s1 : Shared) (m : Str → Option Value) (H1 : Hp), Inv X ps σ0 H1 s1 → gName i (V.ref L) σ0 H1 E0.nx → s1.heap.Ns C m → FpOk X ps H1 C → compPost (model X.prog X.w) X.A X.xe (some (assign (.Name y py) X.env)) (fun _ s2 => SP X ps E0 .next s2) (.ref L) C (.ok .next) s1 := by
    rintro L C s1 m H1 I1 q hn ⟨f0, f1, f2, f3, f4, f5⟩
    refine wpAny_assign_Name (store_ok2 (v := V.ref L) I1 hN hy (Or.inl hyl) rfl ?_ (Or.inr hyl))
    rintro s2 I2 ⟨a, sb, ha⟩
    have apart : C ≠ a := ha.elim (fun z => by rw [z]; exact f1) fun z e => f4 y a z e.symm
    exact ⟨m, hn.sameBut sb apart, fun h3 sb3 => ⟨_, H1, I2.turned (t' := s2.toks) (fun b o hb e => (sb3.2 b hb).trans e) f0 f1 f3 f4 f5, q⟩⟩
  exact wpAny_bind (thn (dcT_run hu hc hN I0 hi ok hg ht hk he hs h0 fun p C s1 m H1 I1 q hn fp => last p C s1 m H1 I1 q hn fp) fun _ s2 z => wpAny_pure (wpAny_pure z))
theorem ds_setDcT {i : Nat} {y : Str} {py : Pos} {kx vx tg iter : Expr} {ifs : List Expr} {scope : Scope} {pos spos : Pos} {ek ev : ET} (own : List (Str × Nat)) (hu : X.A.units + 1 < cLine) (hc : X.calm = true) (hN : X.N.Nodup) (hi : DIt X W tg iter it) (ok : BlkOk X.N X.env.scope scope own)
    (hg : InBlk X scope fun Y => DG Y ws tg g) (ht : InBlk X scope fun Y => DTs Y W0 ifs tst)
    (hk : InBlk X scope fun Y => DE Y W0 kx ek)
    (he : InBlk X scope fun Y => DE Y W0 vx ev) (hsw : swapsWith (.DictComp kx vx [⟨tg, iter, ifs, 0⟩] scope pos) (some (.Name y py)) spos.line X.env = pure true)
    (hy : X.N[i]? = some y := by rfl) (hyl : X.env.scope.names.lookup y = some .local := by rfl) (hw : ∀ j ∈ ws, j ∈ own.map (·.2) := by decide) (hm : 1000 ∉ ws := by decide) (hs : ∀ x, foldedSetIterable iter X.env x = pure x := by intro _; rfl) :
    DS X W (.Assign [.Name y py] (.DictComp kx vx [⟨tg, iter, ifs, 0⟩] scope pos) spos) (sSet i (eDcT it (own.map (·.2)) g tst ek ev)) := PS.imp (ps_setDcT hu hc hN hy hyl hsw hi ok hg ht hk he hs) fun N σ H ⟨B, δ, E, r, h, nx, rt, bk, ct, xe⟩ =>
  lift_dcT hw hm σ H _ ⟨B, δ, fun x => E.xe x δ, _, r, h, fun v H' g d s R hq => slot_ok r s R hq nx, fun cls dx H' x s xr hx => xe cls dx δ σ H' x (r.ext s) (DRel.frz_ext s) xr hx⟩
end
end DL

set_option Elab.async false
set_option linter.all false
set_option maxRecDepth 100000
/-! the truth of a dict whose keys are tuples; walking the keys of one that stands still -/
namespace PySem
section
variable {prog : Program} {w : World} {K : Type} [DecidableEq K] {knd : HeapKind prog w K} {A : Around} {E : Value → Shared → Prop} {s : Shared}
theorem wpAny_truthy_dictH {d : Addr} {xs : List (K × Addr × Value)} {Q : Bool → Shared → Prop} (hd : (d == sysModules) = false) (hm : s.heap.DictOfH knd d xs) (hfit : (xs.length : Int) < 2 ^ 63)
    (h : Q (!xs.isEmpty) { s with toks := s.toks + 1 + 1 }) : wpAny (model prog w) A (truthy (.ref d)) Q E s := by
  have hne : ((xs.length : Int) != 0) = !xs.isEmpty := by cases xs <;> simp <;> omega
  have key : wpAny (model prog w) A (runValue (.builtin "len" ⟨[.ref d], []⟩)) (fun r s' => r = .int xs.length (s.toks + 1) ∧ Q (!xs.isEmpty) s') E s := by
    refine wpAny_runValue (codeAny_builtin entry_len ?_)
    rw [Around.under_plainId plain_len _]
    exact wpAny_mono (wpAny_len_body_dictH (Q := fun r s' => r = .int xs.length (s.toks + 1) ∧ Q (!xs.isEmpty) s') hd hm hfit ⟨rfl, h⟩)
      (fun fin s' h' => by obtain ⟨r, rfl, hq⟩ := h'; exact hq) fun _ _ e => e
  unfold truthy
  first
    | refine wpAny_bind (wpAny_callSpecial?_none (name := Str.ofString "__bool__") hm.typeIs noBool_dict ?_)
    | refine wpAny_bind (wpAny_pure (wpAny_bind (wpAny_callSpecial?_none (name := Str.ofString "__bool__") hm.typeIs noBool_dict ?_)))
  first
    | refine wpAny_bind (wpAny_specialOf (name := Str.ofString "__len__") hm.typeIs F.slot_dict_len.lookup ?_)
    | refine wpAny_bind (wpAny_pure (wpAny_bind (wpAny_specialOf (name := Str.ofString "__len__") hm.typeIs F.slot_dict_len.lookup ?_)))
  first
    | exact wpAny_bind (wpAny_mono key (fun r s' h' => by obtain ⟨rfl, hq⟩ := h'; exact wpAny_pure (hne ▸ hq)) fun _ _ e => e)
    | exact wpAny_bind (wpAny_pure (wpAny_bind (wpAny_mono key (fun r s' h' => by obtain ⟨rfl, hq⟩ := h'; exact wpAny_pure (hne ▸ hq)) fun _ _ e => e)))
end
end PySem
namespace DL
open PySem PySem.Spec PyProof.Rows L2
section
variable {X : Cx} {W : WX} {a : Expr} {ta : ET}
def rTruT : V → Hp → (Bool → Hp → Prop) → Prop := fun x H Q => ∃ p rows, x = .ref p ∧ H p = some (.dT rows) ∧ Q (!rows.isEmpty) H
theorem tru_dT : TruR X rTruT := by
  intro pins s σ H x v Q I rx h
  obtain ⟨p, rows, rfl, hp, q⟩ := h
  cases rx
  obtain ⟨z, hd, ys, rel, dd⟩ := dt_of I.hok hp
  have hl : rows.length = ys.length := Paired.length rel
  have he : (!ys.isEmpty) = !rows.isEmpty := by
    cases ys <;> cases rows <;> simp_all
  have hs : sizeLine = 16777216 := sizeLine_eq
  refine wpAny_truthy_dictH hd dd (by omega) ?_
  rw [he]
  exact ⟨H, I.tok _, q⟩
/-- an own dict over tuples, as a test -/
def bTruT (t : ET) : BT := fun e δ q => t e δ fun g x => match g, x with
  | .bo, .dtp kvs => q (!kvs.isEmpty)
  | _, _ => False
theorem bo_dtp {K : PySem.W.Frag} {B : Bs} {H H' : Hp} {δ : DSt} {σ : St} {kvs : List (List Key × Key)} {v : V} (R : Res K B H H' δ σ .bo (.dtp kvs) v) : ∃ p, v = .ref p ∧ H' p = some (.dT (kvV kvs)) := by
  obtain ⟨a, rfl, _, o, _⟩ := R
  exact ⟨a, rfl, o⟩
theorem dt_truT (h : DE X W a ta) (he : ∀ whole, isTrue a X.env whole = (do let v ← whole; standAt a.pos; holding [v] (truthy v)) := by intro _; rfl) : DT X W a (bTruT ta) := PT.imp (pt_truthR h tru_dT he) fun σ H Q ⟨B, δ, e, q, r0, h, ok, bad⟩ => by
  refine ⟨B, δ, e, _, r0, h, fun v1 H1 g1 d1 s1 R1 h1 => ?_, bad⟩
  unfold bTruT at h1
  split at h1
  · rename_i kvs
    obtain ⟨p, rfl, hp⟩ := bo_dtp R1
    refine ⟨p, _, rfl, hp, ?_⟩
    rw [show (kvV kvs).isEmpty = kvs.isEmpty by cases kvs <;> rfl]
    exact ok _ _ s1 h1
  · exact h1.elim
end
end DL

set_option Elab.async false
set_option linter.all false
set_option maxRecDepth 100000
/-! [a, *b]; a lent call with lists among its arguments; {.. for k in d ..}, d a slot's own dict. -/
namespace DL
open PySem PySem.Spec PyProof.Rows L2
section
variable {X : Cx} {W : WX} {a b c e : Expr} {es : List Expr} {ta tb tc : ET} {t : AT} {p pos : Pos}
def iStar (t : ET) (r : AT) : AT := fun e δ q => t e δ fun _ x => match x with
  | .lst ds => r e δ fun es => q (ds ++ es)
  | .tup ds => r e δ fun es => q (ds ++ es)
  | _ => False
theorem di_star (ha : DE X W e ta) (hr : DI X W es t) (hs : starEach (.Starred e p :: es) X.env = (true, eval e X.env) :: starEach es X.env := by rfl) : DI X W (.Starred e p :: es) (iStar ta t) :=
  PA.imp (StX.pa_star ha hr hs) fun σ H Q ⟨B, δ, e, q, r0, h, ok, bad⟩ => by
  refine ⟨B, δ, e, _, r0, h, fun v1 H1 g1 d1 s1 R1 h1 => ?_, bad⟩
  have hb := R1.toB r0
  cases d1 with
  | lst ds =>
    obtain ⟨a, vs, rfl, z1, z2⟩ := hb
    exact ⟨a, vs, rfl, .inr z1, B, δ, e, _, r0.ext s1, h1, fun ws H2 es s2 R2 h2 => ok (vs ++ ws) H2 (ds ++ es) (s1.trans s2) ((RepA.same (DRel.frz_ext s2) z2).app R2) h2, fun cls dx H' x s => bad cls dx H' x (s1.trans s)⟩
  | tup ds =>
    obtain ⟨a, vs, rfl, z1, z2⟩ := hb
    exact ⟨a, vs, rfl, .inl (tp_cut z1).sq, B, δ, e, _, r0.ext s1, h1, fun ws H2 es s2 R2 h2 => ok (vs ++ ws) H2 (ds ++ es) (s1.trans s2) ((RepA.same (DRel.frz_ext s2) z2).app R2) h2, fun cls dx H' x s => bad cls dx H' x (s1.trans s)⟩
  | _ => exact h1.elim
end
section
variable {X : Cx} {W : WX} {e : Expr} {es : List Expr} {ta : ET} {t : AT} {k j : Nat} {ps : List Str} {sp : SpT} {x : Str} {p pos : Pos}
def eCallMI (sp : SpT) (t : AT) : ET := fun e δ q => t e δ fun ds => sp ds (fun _ => False) fun d => q (if d.top then .nw else .fz) d
theorem de_callMI (C : CalL X.prog X.w X.K X.mg X.base k x ps sp) (hr : Room j X.A) (hg : Gl X x) (tk : Takes X W) (ha : DI X W (e :: es) t) (hk : k ≤ j := by decide) (hdb : (x == ("__debug__" : Str)) = false := by decide)
    (he : starEach (e :: es) X.env = (false, eval e X.env) :: starEach es X.env := by rfl) (hpl : (backTo pos (starEach es X.env)).any (·.1) = false := by rfl) : DE X W (.Call (.Name x p) (e :: es) [] pos) (eCallMI sp t) := by
  obtain ⟨f, fd, F, g, kp, b⟩ := C.ex
  refine PE.imp (pe_callSD F (hr.mono hk) hg g kp b .nil (fun σ => passAt tk σ) ha hdb he hpl) fun σ H Q ⟨B, δ, e, q, r0, h, ok, bad⟩ => ?_
  refine ⟨B, δ, e, _, r0, h, fun vs H1 ds s1 R1 h1 => ?_, bad⟩
  refine ⟨Hid B δ σ, ds, _, fun b hb => ?_, ?_, h1, fun v H' d s R Rn hq => ?_⟩
  · obtain ⟨_, o, e, _, _, _, ld⟩ := (r0.ext s1).own hb
    exact ⟨o, e, ld⟩
  · rw [List.append_nil]
    exact R1
  · cases c : d.top with
    | true =>
      rw [c] at hq
      obtain ⟨a, ea, na, o⟩ := Rn c
      exact ok v H' .nw d (s1.trans s) ⟨a, ea, s1.free na, o⟩ hq
    | false =>
      rw [c] at hq
      exact ok v H' .fz d (s1.trans s) R hq
end
/-! ### data without dicts -/
mutual
def D.noDic : D → Bool
  | .dic _ => false
  | .dtp _ => false
  | .lst ds => noDicA ds
  | .tup ds => noDicA ds
  | _ => true
def noDicA : List D → Bool
  | [] => true
  | d :: ds => d.noDic && noDicA ds
end
section
variable {K : PySem.W.Frag} {Z Z' : Hp}
mutual
theorem Rep.noDic (hZ : ∀ b o, Z b = some o → (∀ od kvs, o ≠ .frz od (.dK kvs)) → Z' b = some o) : ∀ (d : D) (v : V), d.noDic = true → Rep K Z none d v → Rep K Z' none d v
  | .non, v, _, h => h
  | .bl b, v, _, h => h
  | .int i, v, _, h => h
  | .str s, v, _, h => h
  | .lst ds, v, i, h => by
    obtain ⟨a, vs, e, s, q⟩ := h
    refine ⟨a, vs, e, ?_, RepA.noDic hZ ds vs (by simpa [D.noDic] using i) q⟩
    rcases s with s | s
    · rcases s with s | ⟨o, s⟩
      · exact .inl (.inl (hZ _ _ s (fun od kvs z => nomatch z)))
      · exact .inl (.inr ⟨o, hZ _ _ s (fun od kvs z => nomatch z)⟩)
    · exact .inr s
  | .dic kds, v, i, h => by simp [D.noDic] at i
  | .dtp kvs, v, i, h => by simp [D.noDic] at i
  | .ktp ks, v, _, h => by
    obtain ⟨a, e, s⟩ := h
    exact ⟨a, e, hZ _ _ s (fun od kvs z => nomatch z)⟩
  | .tup ds, v, i, h => by
    obtain ⟨a, vs, e, ⟨ob, s, z⟩, q⟩ := h
    exact ⟨a, vs, e, ⟨ob, hZ _ _ s (fun od kvs z => nomatch z), z⟩, RepA.noDic hZ ds vs (by simpa [D.noDic] using i) q⟩
theorem RepA.noDic (hZ : ∀ b o, Z b = some o → (∀ od kvs, o ≠ .frz od (.dK kvs)) → Z' b = some o) : ∀ (ds : List D) (vs : List V), noDicA ds = true → RepA K Z none ds vs → RepA K Z' none ds vs
  | [], vs, _, h => h
  | d :: ds, vs, i, h => by
    obtain ⟨v, r, e, h1, h2⟩ := h
    have i' : d.noDic = true ∧ noDicA ds = true := by simpa [noDicA] using i
    exact ⟨v, r, e, Rep.noDic hZ d v i'.1 h1, RepA.noDic hZ ds r i'.2 h2⟩
end
theorem RepK.noDic (hZ : ∀ b o, Z b = some o → (∀ od kvs, o ≠ .frz od (.dK kvs)) → Z' b = some o) : ∀ (ds : List (Key × D)) (kvs : List (Key × V)), noDicA (ds.map (·.2)) = true → RepK K Z none ds kvs → RepK K Z' none ds kvs
  | [], kvs, _, z => z
  | (k, d) :: ds, kvs, i, z => by
    obtain ⟨v, s, e, z1, z2⟩ := z
    have i' : d.noDic = true ∧ noDicA (ds.map (·.2)) = true := by simpa [noDicA] using i
    exact ⟨v, s, e, Rep.noDic hZ d v i'.1 z1, RepK.noDic hZ ds s i'.2 z2⟩
theorem noDicA_map {α : Type} {g : α → D} (h : ∀ a, (g a).noDic = true) : ∀ l : List α, noDicA (l.map g) = true
  | [] => rfl
  | a :: l => by rw [List.map_cons, noDicA, h a, noDicA_map h l] <;> rfl
end
/-! ### the run of a dict comprehension -/
section
variable {X : Cx} {W : WX} {it : IT} {g : GT} {ws : List Nat} {tst : BT} {ek ev : ET} {own : List (Str × Nat)}
theorem dc_run {K : PySem.W.Frag} {B : Bs} {H1 : Hp} {δ : DSt} {σ : St} {J : It} {fl : Gv} {ds : List D} {vs : List Nat} {q : D → Prop} {Q : VK} (hw : ∀ j ∈ ws, j ∈ vs) (hm : 1000 ∉ ws) (r1 : DRel K B H1 δ σ) (Dv : Dlv K (Frz B H1 δ σ) J fl ds)
    (hq : (noOw vs δ ∧ ds.length ≤ sizeLine) ∧ dcR fl g tst ek ev (forget vs δ) ds [] fun ys => q (.dic ys)) (ok : ∀ v H' d, Same H1 H' → Res K B H1 H' δ σ .nw d v → q d → Q v H') :
    tDc (fun _ H R => R J H) (LiftG K ws g) (LiftT K W0 tst) (Lift K W0 ek) (Lift K W0 ev) vs σ H1 Q := by
  intro D hD
  obtain ⟨⟨hno, hlen⟩, hq⟩ := hq
  obtain ⟨rd, sd⟩ := r1.drop vs
  obtain ⟨rh, sh⟩ := rd.hideMore (p := D) (o := .dK []) hD (fun _ z => by cases z) ⟨(fun _ _ z => by cases z), (fun _ z => by cases z), trivial⟩
  refine ⟨fun i m H' => m = ds.length - i ∧ i ≤ ds.length ∧ Same H1 H' ∧ ∃ acc as, H' D = some (.dK acc) ∧ acc.length ≤ i ∧ RepK K (Frz (B.more D) H' (forget vs δ) (wipe σ vs)) none as acc ∧
    DRel K (B.more D) H' (forget vs δ) (wipe σ vs) ∧ Same (Frz B H1 δ σ) (Frz (B.more D) H' (forget vs δ) (wipe σ vs)) ∧ dcR fl g tst ek ev (forget vs δ) (ds.drop i) as fun ys => q (.dic ys),
    ⟨ds.length, by simp, Nat.zero_le _, same_upd' hD, [], [], upd_same, Nat.le_refl _, rfl, rh, sd.trans sh, hq⟩, ?_⟩
  rintro i m H' ⟨rfl, hi, sm, acc, as, hacc, hal, ra, rr, sz, hl⟩
  have sH : Same (Frz B H1 δ σ) H' := sz.trans (cut_le _ _)
  by_cases hlt : i < ds.length
  · refine .inr ⟨Dv.go H' i sH hlt, fun H2 => Same H1 H2 ∧ ∃ acc as, H2 D = some (.dK acc) ∧ acc.length ≤ i + 1 ∧ RepK K (Frz (B.more D) H2 (forget vs δ) (wipe σ vs)) none as acc ∧
      DRel K (B.more D) H2 (forget vs δ) (wipe σ vs) ∧ Same (Frz B H1 δ σ) (Frz (B.more D) H2 (forget vs δ) (wipe σ vs)) ∧ dcR fl g tst ek ev (forget vs δ) (ds.drop (i + 1)) as fun ys => q (.dic ys),
      fun H2 ⟨z1, z2⟩ => ⟨_, by omega, rfl, hlt, z1, z2⟩, fun x H2 y => ?_⟩
    obtain ⟨d, ed, yl⟩ := Dv.yld H' i x H2 sH hlt y
    obtain ⟨s2, R⟩ := yl.at rr sz
    have edrop : ds.drop i = d :: ds.drop (i + 1) := by
      rw [List.drop_eq_getElem_cons hlt]
      have : ds[i] = d := by
        rw [List.getElem?_eq_getElem hlt] at ed
        exact Option.some.inj ed
      rw [this]
    rw [edrop] at hl
    refine ⟨B.more D, forget vs δ, fl, d, _, rr.ext s2, R, hl, fun δ3 σ3 H3 r3 s3 b3 h3 => ⟨wipe_but b3 hw, ?_⟩⟩
    have s23 := b3.heap hm
    have no0 : noOw vs (forget vs δ) := noOw_forget vs vs (fun _ z => z)
    obtain ⟨_, own3⟩ := b3.own vs no0 hw
    have fz : ∀ {H4 : Hp}, Same (Frz (B.more D) H4 δ3 σ3) (Frz (B.more D) H4 (forget vs δ) (wipe σ vs)) := fun {H4} => same_cut (Same.refl _) fun b _ z => z.imp (own3 b) id
    refine ⟨B.more D, δ3, xn, _, r3, h3, fun b H4 s4 h4 => ?_, fun _ _ _ _ _ _ z => z.elim⟩
    cases b with
    | false =>
      rw [if_neg Bool.false_ne_true] at h4
      show _ ∧ _
      have s' : Same H' H4 := (s2.trans s23).trans s4
      exact ⟨sm.trans s', acc, as, s' _ _ hacc, Nat.le_succ_of_le hal, RepK.same (DRel.frz_ext s') ra, rr.ext s', sz.trans (DRel.frz_ext s'), h4⟩
    | true =>
      rw [if_pos rfl] at h4
      refine ⟨B.more D, δ3, xn, _, r3.ext s4, h4, fun kv H5 gk kd s5 R5 h5 => ?_, fun _ _ _ _ _ _ z => z.elim⟩
      refine ⟨B.more D, δ3, xn, _, (r3.ext s4).ext s5, h5, fun y H6 gy dy s6 R6 h6 => ?_, fun _ _ _ _ _ _ z => z.elim⟩
      obtain ⟨hg, h6⟩ := Tg.put_ne h6
      split at h6
      · rename_i c ec
        have ev := keyD_rep ec ((R5.toB (r3.ext s4)).full (cut_le _ _))
        have s' : Same H' H6 := (((s2.trans s23).trans s4).trans s5).trans s6
        have hD6 : H6 D = some (.dK acc) := s' _ _ hacc
        refine ⟨acc, c, ev, hD6, Nat.lt_of_le_of_lt hal (Nat.lt_of_lt_of_le hlt hlen), ?_⟩
        obtain ⟨rg, sg⟩ := (rr.ext s').grow (o' := .dK (putK acc c y)) (fun _ z => by cases z) ⟨(fun _ _ z => by cases z), (fun _ z => by cases z), trivial⟩
        have ry : Rep K (Frz (B.more D) H6 (forget vs δ) (wipe σ vs)) none dy y := Rep.same fz (R6.toZ ((r3.ext s4).ext s5) hg)
        refine ⟨fun b o hb => ?_, putK acc c y, putD as c dy, upd_same, Nat.le_trans (length_putK _ _ _) (by omega), RepK.same sg (RepK.put c ry (RepK.same (DRel.frz_ext s') ra)), rg, (sz.trans (DRel.frz_ext s')).trans sg, h6⟩
        rw [upd_ne (ne_of_none hb hD)]
        exact s' _ _ (sm _ _ hb)
      · exact h6.elim
  · have e : i = ds.length := by omega
    subst e
    rw [List.drop_length] at hl
    have hl' : q (.dic as) := hl
    refine .inl ⟨Dv.stop H' sH, ok _ _ (.dic as) sm ⟨D, rfl, hD, acc, hacc, RepK.same ?_ ra⟩ hl'⟩
    refine same_cut (Same.refl _) fun b _ z => ?_
    rcases z with (z | z) | z
    · exact .inl (own_keep b vs hno z)
    · exact .inr (.inl z)
    · exact .inr (.inr z)
end
/-! ### {.. for k in d ..}, d a slot's own dict -/
def eDcO (i : Nat) (own : List Nat) (tg : GT) (tst : BT) (ek ev : ET) : ET := fun _ δ q => match getS δ i with
  | .ow (.dic kds) => (noOw own δ ∧ kds.length ≤ sizeLine) ∧ dcR .sh tg tst ek ev (forget own (soft (setS δ i (.sh (.dic kds))))) (kds.map fun kv => keyToD kv.1) [] fun ys => noDicA (ys.map (·.2)) = true ∧ q .nw (.dic ys)
  | _ => False
section
variable {X : Cx} {W : WX} {g : GT} {ws vs : List Nat} {tst : BT} {ek ev : ET}
theorem hid_freed {B : Bs} {K : PySem.W.Frag} {H : Hp} {δ : DSt} {σ : St} {i : Nat} {d : D} {a : Addr} (r : DRel K B H δ σ) (hi : δ[i]? = some (Sl.ow d)) (ea : σ[i]? = some (some (V.ref a))) :
    ¬ Hid B (setS δ i (.sh d)) σ a ∧ ∀ b, Hid B δ σ b → Hid B (setS δ i (.sh d)) σ b ∨ b = a := by
  constructor
  · rintro (⟨j, e, z1, z2⟩ | z)
    · rw [setS_eq] at z1
      by_cases c : i = j
      · subst c
        rw [List.getElem?_set_self (List.getElem?_eq_some_iff.mp hi).1] at z1
        cases z1
      · rw [List.getElem?_set_ne c] at z1
        exact c (r.inj i j d e a hi z1 ea z2)
    · exact r.apart a ⟨i, d, hi, ea⟩ z
  · rintro b (⟨j, e, z1, z2⟩ | z)
    · by_cases c : i = j
      · subst c
        rw [ea] at z2
        cases z2
        exact .inr rfl
      · exact .inl (.inl ⟨j, e, by rw [setS_eq, List.getElem?_set_ne c]; exact z1, z2⟩)
    · exact .inl (.inr z)
theorem lift_dcO (i : Nat) (hw : ∀ j ∈ ws, j ∈ vs) (hm : 1000 ∉ ws) : ∀ σ H Q, Lift X.K W (eDcO i vs g tst ek ev) σ H Q → tLockE (tDc (iKeys (tVar i)) (LiftG X.K ws g) (LiftT X.K W0 tst) (Lift X.K W0 ek) (Lift X.K W0 ev) vs) σ H Q := by
  rintro σ H Q ⟨B, δ, e, q, r, h, ok, bad⟩
  unfold eDcO at h
  split at h
  · rename_i kds hg
    have hi := getS_some hg (fun z => nomatch z)
    obtain ⟨a, ev, hB, kvs, hd, rk⟩ := r.sl i _ hi
    refine ⟨a, .dK kvs, hd, trivial, fun od => ?_⟩
    obtain ⟨r1, s1⟩ := r.frzSh hg
    obtain ⟨nh, hf⟩ := hid_freed r hi ev
    have rl := rel_lock (od := od) r1 hd hB nh
    refine ⟨.ref a, ev, a, od, rfl, .inl ⟨kvs, upd_same, ?_⟩⟩
    have free : (Frz B (upd H a (.frz od (.dK kvs))) (soft (setS δ i (.sh (.dic kds)))) σ) a = some (.frz od (.dK kvs)) := cut_some.mpr ⟨fun z => nh (soft_hid.mp z), upd_same⟩
    have go := dc_run (tst := tst) (ek := ek) (ev := _) (g := g) (Q := fun v H' => H' a = some (.frz od (.dK kvs)) ∧ Q v (upd H' a (.dK kvs))) (q := fun d => (match d with | .dic ys => noDicA (ys.map (·.2)) = true | _ => False) ∧ q .nw d) hw hm rl (dlv_keys free rk.keys)
      ⟨⟨noOw_soft.mpr (noOw_set (s := .sh (.dic kds)) (fun d z => nomatch z) _ h.1.1), by rw [List.length_map]; exact h.1.2⟩, h.2⟩ fun v H' d s R hq => by
      have at2 : H' a = some (.frz od (.dK kvs)) := s _ _ upd_same
      refine ⟨at2, ?_⟩
      obtain ⟨hn, hq⟩ := hq
      cases d with
      | dic ys =>
        obtain ⟨p, rfl, n, kv2, o1, o2⟩ := R
        have np : p ≠ a := fun z => by
          rw [z, upd_same] at n
          cases n
        rw [upd_ne np] at n
        refine ok _ _ .nw (.dic ys) (fun b o e => ?_) ⟨p, rfl, n, kv2, by rw [upd_ne np]; exact o1, RepK.noDic (fun b o e no => ?_) _ _ hn o2⟩ hq
        · by_cases c : b = a
          · subst c
            rw [upd_same, ← hd, e]
          · rw [upd_ne c]
            exact s b o (by rw [upd_ne c]; exact e)
        · obtain ⟨e1, e2⟩ := cut_some.mp e
          have c : b ≠ a := fun z => by
            rw [z, at2] at e2
            cases e2
            exact no _ _ rfl
          refine cut_some.mpr ⟨fun z => ?_, by rw [upd_ne c]; exact e2⟩
          rcases z with z | z
          · rcases hf b z with z | z
            · exact e1 (.inl (soft_hid.mpr z))
            · exact c z
          · exact e1 (.inr z)
      | _ => exact hn.elim
    exact go
  · exact h.elim
variable {own : List (Str × Nat)}
theorem de_dcO {kx vx tg : Expr} {x : Str} {xpos : Pos} {ifs : List Expr} {scope : Scope} {pos : Pos} (i : Nat) (own : List (Str × Nat)) (hc : X.calm = true) (hN : X.N.Nodup) (ok : BlkOk X.N X.env.scope scope own)
    (hg : InBlk X scope fun Y => DG Y ws tg g) (ht : InBlk X scope fun Y => DTs Y W0 ifs tst) (hk : InBlk X scope fun Y => DE Y W0 kx ek) (he : InBlk X scope fun Y => DE Y W0 vx ev)
    (hw : ∀ j ∈ ws, j ∈ own.map (·.2) := by decide) (hm : 1000 ∉ ws := by decide) (hi : X.N[i]? = some x := by rfl) (hv : Vis X.env.scope x := by first | exact Or.inl rfl | exact Or.inr (Or.inl rfl) | exact Or.inr (Or.inr rfl)) (hd : (x == ("__debug__" : Str)) = false := by decide)
    (hcd : (x == ("__classdict__" : Str)) = false := by decide) (hs : ∀ y, foldedSetIterable (.Name x xpos) X.env y = pure y := by intro _; rfl) :
    DE X W (.DictComp kx vx [⟨tg, .Name x xpos, ifs, 0⟩] scope pos) (eDcO i (own.map (·.2)) g tst ek ev) :=
  PE.imp (pe_lock (pe_dc hc hN (pi_keys (pv i hi hv hd hcd)) ok hg ht hk he hs)) (lift_dcO i hw hm)
end
end DL
namespace DL
open PySem PySem.Spec PyProof.Rows L2
section
variable {P : Program} {w : World} {K : PySem.W.Frag} {mg : Str → Option Value} {base : Heap} {k : Nat}
/-- no promise is kept by each def -/
theorem fn_none {f : Addr} {fd : FuncData} {ps : List Str} {sp : SpT} (h : ∀ ds e q, ¬ sp ds e q) : FnOk P w K mg base (L2.CX P w) k f fd ps (SpD K sp) := by
  refine ⟨fun vs H Q E ⟨_, _, _, _, z, _⟩ => (h _ _ _ z).elim, ?_⟩
  intro A outer s H args us vs Q E hr env hb hv ⟨_, _, _, _, z, _⟩
  exact (h _ _ _ z).elim
end
end DL

set_option Elab.async false
set_option linter.all false
set_option maxRecDepth 100000
/-! sorted(a dict): its keys, of one kind. -/
namespace DL
open PySem PySem.Spec PyProof.Rows L2
section
variable {P : Program} {w : World} {A : Around} {E : Value → Shared → Prop} {s : Shared} {d : Addr} {kvs : List (Key × Value)} {ep : Nat}
theorem sorted_dicG {k0 : Bool} {Q : Value → Shared → Prop} (lo : (d == sysModules) = false) (da : s.heap.DictAt (mixKind P w) d kvs ep) (hn : kvs.length ≤ sizeLine) (hh : A.handled = none) (one : ∀ kv ∈ kvs, kdS (skK kv.1) = k0)
    (hQ : ∀ (h' : Heap) (tk : Nat) (p : Addr) (out : Array Value) (n : Nat) (ys : List Key), (∀ a o, s.heap.get? a = some o → h'.get? a = some o) → (∀ a o, s.heap.get? a = some o → a ≠ p) →
      h'.get? p = some (seqObj "list" out n) → Vals (ys.map kV) out.toList → ys.Perm (kvs.map (·.1)) → ys.Pairwise (fun x y => lexS [skK y] [skK x] = false) → Q (.ref p) { s with heap := h', toks := tk }) :
    wpAny (model P w) A (call (.builtin "sorted") [.ref d]) Q E s := by
  refine Calls.call_function_entry kind_sorted plain_sorted entry_sorted (args_sorted1 _) ?_
  unfold Builtin.«sorted»
  refine wpAny_bind (m := checkCount "sorted" 1 1 _) (wpAny_pure (wpAny_bind (PySem.W.kdu_collect (A := A.in1) (PySem.W.kdl_dict (knd := mixKind P w) (kvs := kvs) (ep := ep) lo) hh da hn fun h' tk acc hk hacc => ?_)))
  have len : acc.toList.length = kvs.length := by rw [Array.length_toList]; exact hacc.1
  have nv : acc.toList.length ≤ sizeLine := by omega
  have at_ : ∀ (j : Nat) (u : Value), acc.toList[j]? = some u → ∃ c x, kvs[j]? = some (c, x) ∧ keyIs c u = true := fun j u e => hacc.2 j u (by rw [← Array.getElem?_toList]; exact e)
  have pk : acc.toList.map (kf (mixKind P w)) = kvs.map (·.1) := by
    refine List.ext_getElem? fun j => ?_
    rw [List.getElem?_map, List.getElem?_map]
    cases e : acc.toList[j]? with
    | none =>
      have : kvs[j]? = none := by
        rw [List.getElem?_eq_none_iff] at e ⊢
        omega
      rw [this] <;> rfl
    | some u =>
      obtain ⟨c, x, e2, ic⟩ := at_ j u e
      rw [e2]
      exact congrArg some (kf_eq (κ := mixKind P w) ic)
  have isv : ∀ u ∈ acc.toList, ∃ kv ∈ kvs, keyIs kv.1 u = true ∧ kf (mixKind P w) u = kv.1 := fun u hu => by
    obtain ⟨j, hj, ej⟩ := List.getElem_of_mem hu
    obtain ⟨c, x, e2, ic⟩ := at_ j u (by rw [List.getElem?_eq_getElem hj, ej])
    exact ⟨(c, x), List.mem_of_getElem? e2, ic, kf_eq (κ := mixKind P w) ic⟩
  have hp : ∀ u ∈ acc.toList, ∃ k, FlatU u k ∧ kdS k = k0 := fun u hu => by
    obtain ⟨kv, hkv, ic, _⟩ := isv u hu
    exact ⟨skK kv.1, flat_is ic, one kv hkv⟩
  refine wpAny_bind (wpAny_newList ?_ nv)
  have atL : (h'.push (seqObj "list" acc.toList.toArray 0)).get? h'.objs.size = some (seqObj "list" acc.toList.toArray 0) := Heap.get?_push_size _ rfl
  refine wpAny_bind (wpAny_holding (wpAny_call_entry slot_list_sort ⟨_, atL, rfl⟩ entry_list_sort (SrtO.list_sort_ord (swo_lexS fun u => [skU u]) atL nv (fun h2 => flat_one hp h2) fun out so st => ⟨_, rfl, ?_⟩) (args_list_sort _)))
  obtain ⟨n, hn⟩ := sortedHeap_at (vs := acc.toList) (out := out.toArray) atL
  have po : out.Perm acc.toList := st.perm
  have key : ∀ u ∈ out, keyIs (kf (mixKind P w) u) u = true ∧ skU u = skK (kf (mixKind P w) u) := fun u hu => by
    obtain ⟨kv, _, ic, ec⟩ := isv u (po.mem_iff.mp hu)
    rw [ec]
    exact ⟨ic, (flat_is ic).key⟩
  refine wpAny_pure ⟨_, rfl, hQ _ _ h'.objs.size out.toArray n (out.map (kf (mixKind P w))) (fun a o q => ?_) ?_ hn ?_ (by rw [← pk]; exact po.map _) ?_⟩
  · have q1 := hk a o q
    have lt := Heap.lt_size q1
    show (sortedHeap (h'.push (seqObj "list" acc.toList.toArray 0)) h'.objs.size acc.toList out.toArray).get? a = some o
    rw [sortedHeap_old (Nat.ne_of_lt lt) (by rw [size_push']; exact Nat.lt_succ_of_lt lt)]
    exact Heap.get?_push_of_some _ q1
  · exact fun a o q => Nat.ne_of_lt (Heap.lt_size (hk a o q))
  · exact vals_keys fun u hu => (key u hu).1
  · refine List.pairwise_map.mpr (so.imp_of_mem fun {x y} hx hy q => ?_)
    rw [← (key x hx).2, ← (key y hy).2]
    exact q
end
/-- a new thing at a place where nothing stood -/
theorem un_new {fs : List Addr} {ex : List Addr} {H : Hp} {h h' : Heap} {p : Addr} {o : HO} (k : ∀ b u, h.get? b = some u → h'.get? b = some u) (ne : ∀ b u, h.get? b = some u → b ≠ p) (hn : H p = none) : Un fs ex H (upd H p o) h h' := by
  have old : ∀ b u, H b = some u → upd H p o b = some u := fun b u q => by
    rw [upd_ne (ne_of_none q hn)]
    exact q
  refine ⟨fun b u q _ _ _ => k b u q, fun b u q _ _ _ => ⟨u.slots, k b u q⟩, fun b u q n _ => ?_, fun b u q _ => ⟨u, k b u q⟩, fun b xs q => old b _ q, fun b u xs q => old b _ q, fun b ps q => ⟨#[], ?_⟩⟩
  · rw [upd_ne (ne b u q)]
    exact n
  · rw [old b _ q]
    simp
theorem hok_new {P : Program} {w : World} {H : Hp} {h h' : Heap} {p : Addr} {o : HO} (x : HOk P w H h) (k : ∀ b u, h.get? b = some u → h'.get? b = some u) (hn : H p = none) (new : ObjOk P w (upd H p o) h' p o) : HOk P w (upd H p o) h' := by
  intro b u e
  have old : ∀ c v, H c = some v → upd H p o c = some v := fun c v q => by
    rw [upd_ne (ne_of_none q hn)]
    exact q
  by_cases eb : b = p
  · subst eb
    rw [upd_same] at e
    cases e
    exact new
  · rw [upd_ne eb] at e
    exact (x b u e).stay (fun c v _ q => k c v q) (fun c q => old c _ q) fun c xs q => old c _ q
section
variable {X : Cx} {W : WX}
def rSortDc : List V → Hp → VK → Prop := fun vs H Q => ∃ (a : Addr) (kvs : List (Key × V)) (k0 : Bool), vs = [.ref a] ∧ Rd H a (.dK kvs) ∧ (∀ kv ∈ kvs, kdS (skK kv.1) = k0) ∧
  ∀ (ys : List Key) (p : Addr), ys.Perm (kvs.map (·.1)) → ys.Pairwise (fun x y => lexS [skK y] [skK x] = false) → H p = none → Q (.ref p) (upd H p (.lst (ys.map kV)))
theorem kv_keys {kvs : List (Key × V)} {vs : List (Key × Value)} (k : KV kvs vs) : kvs.map (·.1) = vs.map (·.1) := by
  induction k with
  | nil => rfl
  | cons h t ih => rw [List.map_cons, List.map_cons, ih, h.1]
theorem cr_sortDc (hc : X.calm = true) : CallR X (.builtin "sorted") rSortDc := by
  rintro pins s σ H vs us Q I r ⟨a, kvs, k0, rfl, hd, one, q⟩
  rw [Vals.ref1 r]
  obtain ⟨small, ns, ws, kv, dd⟩ := dk_rd I.hok hd
  obtain ⟨ep, da⟩ : ∃ ep, s.heap.DictAt (mixKind X.prog X.w) a ws ep := let ⟨o, es, ep, r⟩ := dd; ⟨ep, o, es, r⟩
  have ek := kv_keys kv
  have lw : ws.length = kvs.length := kv.length.symm
  refine sorted_dicG ns da (by omega) (I.ok.hd hc) (k0 := k0) (fun x hx => ?_) fun h' tk p out n ys keep ne hg hv pm so => ?_
  · have : x.1 ∈ kvs.map (·.1) := by
      rw [ek]
      exact List.mem_map.mpr ⟨x, hx, rfl⟩
    obtain ⟨y, hy, e⟩ := List.mem_map.mp this
    rw [← e]
    exact one y hy
  · have free : H p = none := by
      cases e : H p with
      | none => rfl
      | some u =>
        obtain ⟨o, eo⟩ := objOk_get (I.hok p u e)
        exact absurd rfl (ne p o eo)
    have len : (ys.map kV).length ≤ sizeLine := by
      rw [List.length_map, pm.length_eq, List.length_map, lw]
      exact small
    have J : Inv X pins σ (upd H p (.lst (ys.map kV))) { s with heap := h', toks := tk } := I.un (un_new keep ne free) (hok_new I.hok keep free ⟨len, out.toList, n, hv, by rw [Array.toArray_toList]; exact hg⟩)
    exact ⟨.ref p, _, J, rfl, q ys p (by rw [ek]; exact pm) so free⟩
/-! ### over data -/
def fSortDc : F1 := fun ds q => match ds with
  | [.dic kds] => ∃ k0, (∀ kd ∈ kds, kdS (skK kd.1) = k0) ∧ ∀ ys : List Key, ys.Perm (kds.map (·.1)) → ys.Pairwise (fun x y => lexS [skK y] [skK x] = false) → q .nw (.lst (ys.map keyToD))
  | _ => False
theorem repK_keys {K : PySem.W.Frag} {H : Hp} {M : Option Hp} : ∀ {kds : List (Key × D)} {kvs : List (Key × V)}, RepK K H M kds kvs → kvs.map (·.1) = kds.map (·.1)
  | [], _, h => by
    cases (show _ = [] from h)
    rfl
  | (k, d) :: kds, _, h => by
    obtain ⟨v, r, rfl, _, h2⟩ := h
    rw [List.map_cons, List.map_cons, repK_keys h2]
theorem snd_sortDc : SndC X.K rSortDc fSortDc := by
  intro B H δ σ vs ds q Q r h hf ok
  unfold fSortDc at hf
  split at hf
  · rename_i kds
    obtain ⟨v, rfl, a, kvs, rfl, rd, rk⟩ := h.one
    obtain ⟨k0, one, hq⟩ := hf
    have ek := repK_keys rk
    refine ⟨a, kvs, k0, rfl, rd, fun kv hkv => ?_, fun ys p pm so hp => ?_⟩
    · have : kv.1 ∈ kds.map (·.1) := by
        rw [← ek]
        exact List.mem_map.mpr ⟨kv, hkv, rfl⟩
      obtain ⟨kd, hkd, e⟩ := List.mem_map.mp this
      rw [← e]
      exact one kd hkd
    · exact ok _ _ .nw _ (same_upd' hp) (resLst r hp (rep_keys ys)) (hq ys (by rw [← ek]; exact pm) so)
  · exact hf.elim
end
end DL

set_option Elab.async false
set_option linter.all false
set_option maxRecDepth 100000
/-! list(a dict); reversed(a list) as what is walked; comprehensions of two clauses. -/
namespace DL
open PySem PySem.Spec PyProof.Rows L2
section
variable {X : Cx}
def rListK : List V → Hp → VK → Prop := fun vs H Q => ∃ d kvs, vs = [.ref d] ∧ Rd H d (.dK kvs) ∧ ∀ p, H p = none → Q (.ref p) (upd H p (.lst (kvs.map fun kv => kV kv.1)))
theorem cr_listK (hc : X.calm = true) : CallR X (.type "list") rListK := by
  rintro pins s σ H xs us Q I rv ⟨d, kvs, rfl, hd, q⟩
  rw [Vals.ref1 rv]
  obtain ⟨small, ns, vs, kv, dd⟩ := dk_rd I.hok hd
  obtain ⟨ep, da⟩ : ∃ ep, s.heap.DictAt (mixKind X.prog X.w) d vs ep := let ⟨o, es, ep, r⟩ := dd; ⟨ep, o, es, r⟩
  have lv : vs.length ≤ sizeLine := by
    rw [← kv.length]
    exact small
  refine PySem.W.kdl_call (PySem.W.kdl_dict (knd := mixKind X.prog X.w) (kvs := vs) (ep := ep) ns) (I.ok.hd hc) da lv fun h' tk acc c keep at_ items => ?_
  have ek := kv_keys kv
  have rl : Vals (kvs.map fun kv => kV kv.1) acc.toList := by
    have e1 : (kvs.map fun kv => kV kv.1) = (vs.map (·.1)).map kV := by rw [← ek, List.map_map] <;> rfl
    rw [e1]
    have l1 : acc.toList.length = vs.length := by rw [Array.length_toList]; exact items.1
    have go : ∀ (us : List Value) (ws : List (Key × Value)), us.length = ws.length → (∀ (j : Nat) (u : Value), us[j]? = some u → ∃ (k : Key) (x : Value), ws[j]? = some (k, x) ∧ (mixKind X.prog X.w).is k u = true) → Vals ((ws.map (·.1)).map kV) us := fun us => by
      induction us with
      | nil =>
        intro ws h _
        cases ws with
        | nil => exact .nil
        | cons _ _ => cases h
      | cons u us ih =>
        intro ws h g
        cases ws with
        | nil => cases h
        | cons w ws =>
          obtain ⟨k, x, e, r⟩ := g 0 u rfl
          cases e
          exact .cons (rel_is r) (ih ws (by simpa using h) fun j u e => g (j + 1) u e)
    exact go _ _ l1 fun j u e => items.2 j u (by rw [← Array.getElem?_toList]; exact e)
  have J : Inv X pins σ (upd H s.heap.objs.size (.lst (kvs.map fun kv => kV kv.1))) { s with heap := h', toks := tk } :=
    I.laid (t' := tk) keep (Nat.le_refl _) ⟨by rw [List.length_map]; exact small, acc.toList, c, rl, by rw [Array.toArray_toList]; exact at_⟩
  exact ⟨.ref _, _, J, rfl, q _ (I.hok.fresh (Nat.le_refl _))⟩
def fListK : F1 := fun ds q => match ds with
  | [.dic kds] => q .nw (.lst (kds.map fun kd => keyToD kd.1))
  | _ => False
theorem rep_keysV {K : PySem.W.Frag} {Z : Hp} : ∀ {kds : List (Key × D)} {kvs : List (Key × V)}, RepK K Z none kds kvs → RepA K Z none (kds.map fun kd => keyToD kd.1) (kvs.map fun kv => kV kv.1)
  | [], _, h => by
    cases (show _ = [] from h)
    rfl
  | (k, d) :: kds, _, h => by
    obtain ⟨v, r, rfl, _, h2⟩ := h
    exact ⟨_, _, rfl, keyToD_rep k, rep_keysV h2⟩
theorem snd_listK : SndC X.K rListK fListK := by
  intro B H δ σ vs ds q Q r h hf ok
  unfold fListK at hf
  split at hf
  · rename_i kds
    obtain ⟨v, rfl, d, kvs, rfl, rd, rk⟩ := h.one
    exact ⟨d, kvs, rfl, rd, fun p hp => ok _ _ .nw _ (same_upd' hp) (resLst r hp (rep_keysV rk)) hf⟩
  · exact hf.elim
end
/-! ### reversed -/
theorem dlv_rev {K : PySem.W.Frag} {Z : Hp} {a : Addr} {ds : List D} {vs : List V} (h : SqL K Z a vs) (r : RepA K Z none ds vs) : Dlv K Z (Itv K a vs.length) .sh ds.reverse := by
  have up : ∀ {H}, Same Z H → SqL K H a vs := fun {H} s => SqL.mono (fun _ _ => Same.rd s) h
  have l1 := r.len
  refine ⟨fun H s => by rw [List.length_reverse, ← l1]; exact Nat.le_refl _, fun H i s hi => ?_, fun H i x H' s hi y => ?_⟩
  · rw [List.length_reverse, ← l1] at hi
    exact ⟨hi, vs, vs[vs.length - 1 - i]'(by omega), up s, by simp⟩
  · rw [List.length_reverse] at hi
    obtain ⟨e, y⟩ := y
    obtain ⟨d, e1, e2⟩ := r.get' (y _ (up s))
    refine ⟨d, ?_, .inl ⟨e, e2, rfl⟩⟩
    rw [List.getElem?_reverse hi, ← l1]
    exact e1
def itRev (t : AT) : IT := fun e δ q => t e δ fun ds => match ds with
  | [.lst ds] => q .sh ds.reverse
  | _ => False
section
variable {X : Cx} {W : WX} {e tg : Expr} {ti : AT} {p pos : Pos}
theorem it_rev (hg : Gl X "reversed") (hm : X.mg "reversed" = none) (ha : DI X W [e] ti) (hs : starEach [e] X.env = [(false, eval e X.env)] := by rfl) : DIt X W tg (.Call (.Name "reversed" p) [e] [] pos) (itRev ti) :=
  PI.imp (pi_reversed hg hm ha hs) fun σ H R ⟨B, δ, e, q, r, h, ok, bad⟩ => by
  refine ⟨B, δ, e, _, r, h, fun vs H' ds s R' hq => ?_, bad⟩
  split at hq
  · obtain ⟨v, r2, rfl, ⟨p, xs, rfl, z1, z2⟩, z3⟩ := R'
    cases (show r2 = [] from z3)
    exact ⟨p, xs, rfl, SqL.mono (fun _ _ => rd_cut) z1, ok _ _ _ _ s (dlv_rev z1 z2) hq⟩
  · exact hq.elim
end
/-! ### [e for x in xs for y in ys] -/
def lc2R (f : Gv) (tg : GT) (tst : BT) (it1 : IT) (vs1 : List Nat) (tg1 : GT) (tst1 : BT) (elt : ET) (δ : DSt) : List D → (List D → Prop) → Prop
  | [], q => q []
  | d :: r, q => tg f d δ fun δ2 => tst xn δ2 fun b => if b = true then it1 xn δ2 fun f1 ds1 => (noOw vs1 δ2 ∧ ds1.length ≤ 1000) ∧ lcR f1 tg1 tst1 elt (forget vs1 δ2) ds1 fun ys => lc2R f tg tst it1 vs1 tg1 tst1 elt δ r fun zs => q (ys ++ zs) else lc2R f tg tst it1 vs1 tg1 tst1 elt δ r q
section
variable {X : Cx} {W : WX} {it it1 : IT} {g g1 : GT} {ws ws1 : List Nat} {tst tst1 : BT} {elt : ET} {own : List (Str × Nat)}
theorem lc2_run {K : PySem.W.Frag} {B : Bs} {H1 : Hp} {δ : DSt} {σ : St} {J : It} {fl : Gv} {ds : List D} {vs vs1 : List Nat} {q : D → Prop} {Q : VK} (hw : ∀ j ∈ ws, j ∈ vs) (hm : 1000 ∉ ws) (hw1 : ∀ j ∈ ws1, j ∈ vs1) (hm1 : 1000 ∉ ws1) (r1 : DRel K B H1 δ σ) (Dv : Dlv K (Frz B H1 δ σ) J fl ds)
    (hq : (noOw vs δ ∧ ds.length ≤ 1000) ∧ lc2R fl g tst it1 vs1 g1 tst1 elt (forget vs δ) ds fun ys => q (.lst ys)) (ok : ∀ v H' d, Same H1 H' → Res K B H1 H' δ σ .nw d v → q d → Q v H') :
    tLc2 (fun _ H R => R J H) (LiftG K ws g) (LiftT K W0 tst) (LiftIt K W0 it1) (LiftG K ws1 g1) (LiftT K W0 tst1) (Lift K W0 elt) vs vs1 σ H1 Q := by
  intro D hD
  obtain ⟨⟨hno, hlen⟩, hq⟩ := hq
  obtain ⟨rd, sd⟩ := r1.drop vs
  obtain ⟨rh, sh⟩ := rd.hideMore (p := D) (o := .lst []) hD (fun _ z => by cases z) ⟨(fun _ _ z => by cases z), (fun _ z => by cases z), trivial⟩
  -- what holds of the list that is made
  let Mk : Nat → Hp → List DL.D → Prop := fun n H' as => Same H1 H' ∧ ∃ acc, H' D = some (.lst acc) ∧ acc.length ≤ n ∧ RepA K (Frz (B.more D) H' (forget vs δ) (wipe σ vs)) none as acc ∧
    DRel K (B.more D) H' (forget vs δ) (wipe σ vs) ∧ Same (Frz B H1 δ σ) (Frz (B.more D) H' (forget vs δ) (wipe σ vs))
  have mkExt : ∀ {n H' H2 as}, Mk n H' as → Same H' H2 → Mk n H2 as := fun {n H' H2 as} ⟨sm, acc, hacc, hal, ra, rr, sz⟩ s' =>
    ⟨sm.trans s', acc, s' _ _ hacc, hal, RepA.same (DRel.frz_ext s') ra, rr.ext s', sz.trans (DRel.frz_ext s')⟩
  have mkLe : ∀ {n m H' as}, Mk n H' as → n ≤ m → Mk m H' as := fun {n m H' as} ⟨sm, acc, hacc, hal, z⟩ le => ⟨sm, acc, hacc, Nat.le_trans hal le, z⟩
  refine ⟨fun i m H' => m = ds.length - i ∧ i ≤ ds.length ∧ ∃ as, Mk (i * 1000) H' as ∧ lc2R fl g tst it1 vs1 g1 tst1 elt (forget vs δ) (ds.drop i) fun ys => q (.lst (as ++ ys)),
    ⟨ds.length, by simp, Nat.zero_le _, [], ⟨same_upd' hD, [], upd_same, Nat.zero_le _, rfl, rh, sd.trans sh⟩, hq⟩, ?_⟩
  rintro i m H' ⟨rfl, hi, as, mk, hl⟩
  obtain ⟨sm, acc, hacc, hal, ra, rr, sz⟩ := id mk
  have sH : Same (Frz B H1 δ σ) H' := sz.trans (cut_le _ _)
  by_cases hlt : i < ds.length
  · refine .inr ⟨Dv.go H' i sH hlt, fun H2 => ∃ as, Mk ((i + 1) * 1000) H2 as ∧ lc2R fl g tst it1 vs1 g1 tst1 elt (forget vs δ) (ds.drop (i + 1)) fun ys => q (.lst (as ++ ys)),
      fun H2 z => ⟨_, by omega, rfl, hlt, z⟩, fun x H2 y => ?_⟩
    obtain ⟨d, ed, yl⟩ := Dv.yld H' i x H2 sH hlt y
    obtain ⟨s2, R⟩ := yl.at rr sz
    have edrop : ds.drop i = d :: ds.drop (i + 1) := by
      rw [List.drop_eq_getElem_cons hlt]
      have : ds[i] = d := by
        rw [List.getElem?_eq_getElem hlt] at ed
        exact Option.some.inj ed
      rw [this]
    rw [edrop] at hl
    refine ⟨B.more D, forget vs δ, fl, d, _, rr.ext s2, R, hl, fun δ3 σ3 H3 r3 s3 b3 h3 => ⟨wipe_but b3 hw, ?_⟩⟩
    have s23 := b3.heap hm
    have no0 : noOw vs (forget vs δ) := noOw_forget vs vs (fun _ z => z)
    obtain ⟨_, own3⟩ := b3.own vs no0 hw
    refine ⟨B.more D, δ3, xn, _, r3, h3, fun b H4 s4 h4 => ?_, fun _ _ _ _ _ _ z => z.elim⟩
    have s' : Same H' H4 := (s2.trans s23).trans s4
    cases b with
    | false =>
      rw [if_neg Bool.false_ne_true] at h4
      show ∃ as, _
      exact ⟨as, mkLe (mkExt mk s') (by omega), h4⟩
    | true =>
      rw [if_pos rfl] at h4
      -- the second clause
      refine ⟨B.more D, δ3, xn, _, r3.ext s4, h4, fun J1 H5 f1 ds1 s5 Dv1 h5 => ?_, fun _ _ _ _ _ _ z => z.elim⟩
      obtain ⟨⟨hno1, hlen1⟩, h5⟩ := h5
      have r5 := (r3.ext s4).ext s5
      obtain ⟨rd1, sd1⟩ := r5.drop vs1
      refine ⟨fun j k H6 => k = ds1.length - j ∧ j ≤ ds1.length ∧ ∃ as1, Mk (i * 1000 + j) H6 as1 ∧ DRel K (B.more D) H6 (forget vs1 δ3) (wipe σ3 vs1) ∧ Same (Frz (B.more D) H5 δ3 σ3) (Frz (B.more D) H6 (forget vs1 δ3) (wipe σ3 vs1)) ∧
        lcR f1 g1 tst1 elt (forget vs1 δ3) (ds1.drop j) fun ys => lc2R fl g tst it1 vs1 g1 tst1 elt (forget vs δ) (ds.drop (i + 1)) fun zs => q (.lst (as1 ++ (ys ++ zs))),
        ⟨ds1.length, by simp, Nat.zero_le _, as, mkExt mk (s'.trans s5), rd1, sd1, h5⟩, ?_⟩
      rintro j k H6 ⟨rfl, hj, as1, mk6, rr6, sz6, h6⟩
      have sH6 : Same (Frz (B.more D) H5 δ3 σ3) H6 := sz6.trans (cut_le _ _)
      by_cases hlt1 : j < ds1.length
      · refine .inr ⟨Dv1.go H6 j sH6 hlt1, fun H7 => ∃ as1, Mk (i * 1000 + (j + 1)) H7 as1 ∧ DRel K (B.more D) H7 (forget vs1 δ3) (wipe σ3 vs1) ∧ Same (Frz (B.more D) H5 δ3 σ3) (Frz (B.more D) H7 (forget vs1 δ3) (wipe σ3 vs1)) ∧
          lcR f1 g1 tst1 elt (forget vs1 δ3) (ds1.drop (j + 1)) fun ys => lc2R fl g tst it1 vs1 g1 tst1 elt (forget vs δ) (ds.drop (i + 1)) fun zs => q (.lst (as1 ++ (ys ++ zs))),
          fun H7 z => ⟨_, by omega, rfl, hlt1, z⟩, fun x H7 y => ?_⟩
        obtain ⟨d1, ed1, yl1⟩ := Dv1.yld H6 j x H7 sH6 hlt1 y
        obtain ⟨s7, R7⟩ := yl1.at rr6 sz6
        have edrop1 : ds1.drop j = d1 :: ds1.drop (j + 1) := by
          rw [List.drop_eq_getElem_cons hlt1]
          have : ds1[j] = d1 := by
            rw [List.getElem?_eq_getElem hlt1] at ed1
            exact Option.some.inj ed1
          rw [this]
        rw [edrop1] at h6
        refine ⟨B.more D, forget vs1 δ3, f1, d1, _, rr6.ext s7, R7, h6, fun δ8 σ8 H8 r8 s8 b8 h8 => ⟨wipe_but b8 hw1, ?_⟩⟩
        have s78 := b8.heap hm1
        have no1 : noOw vs1 (forget vs1 δ3) := noOw_forget vs1 vs1 (fun _ z => z)
        obtain ⟨_, own8⟩ := b8.own vs1 no1 hw1
        have fz : ∀ {H9 : Hp}, Same (Frz (B.more D) H9 δ8 σ8) (Frz (B.more D) H9 (forget vs δ) (wipe σ vs)) := fun {H9} => same_cut (Same.refl _) fun b _ z => z.imp (fun z => own8 b (own_keep b vs1 hno1 (own3 b z))) id
        refine ⟨B.more D, δ8, xn, _, r8, h8, fun b H9 s9 h9 => ?_, fun _ _ _ _ _ _ z => z.elim⟩
        have t' : Same H6 H9 := (s7.trans s78).trans s9
        cases b with
        | false =>
          rw [if_neg Bool.false_ne_true] at h9
          show ∃ as1, _
          exact ⟨as1, mkLe (mkExt mk6 t') (by omega), rr6.ext t', sz6.trans (DRel.frz_ext t'), h9⟩
        | true =>
          rw [if_pos rfl] at h9
          refine ⟨B.more D, δ8, xn, _, r8.ext s9, h9, fun y H10 gy dy s10 R10 h10 => ?_, fun _ _ _ _ _ _ z => z.elim⟩
          obtain ⟨hg, h10⟩ := Tg.put_ne h10
          have u' : Same H6 H10 := t'.trans s10
          obtain ⟨sm6, acc6, hacc6, hal6, ra6, rr6o, sz6o⟩ := mkExt mk6 u'
          have big : acc6.length < sizeLine := by
            have : (1000 * 1000 + 1000 : Nat) < sizeLine := by decide
            have := Nat.mul_le_mul_right 1000 (Nat.le_of_lt (Nat.lt_of_lt_of_le hlt hlen))
            omega
          refine ⟨acc6, hacc6, big, ?_⟩
          obtain ⟨rg, sg⟩ := rr6o.grow (o' := .lst (acc6 ++ [y])) (fun _ z => by cases z) ⟨(fun _ _ z => by cases z), (fun _ z => by cases z), trivial⟩
          obtain ⟨rg1, sg1⟩ := (rr6.ext u').grow (o' := .lst (acc6 ++ [y])) (fun _ z => by cases z) ⟨(fun _ _ z => by cases z), (fun _ z => by cases z), trivial⟩
          have ry : Rep K (Frz (B.more D) H10 (forget vs δ) (wipe σ vs)) none dy y := Rep.same fz (R10.toZ (r8.ext s9) hg)
          refine ⟨as1 ++ [dy], ⟨fun b o hb => ?_, acc6 ++ [y], upd_same, by rw [List.length_append, List.length_singleton]; omega, RepA.same sg (ra6.app (.one ry)), rg, sz6o.trans sg⟩, rg1, (sz6.trans (DRel.frz_ext u')).trans sg1, ?_⟩
          · rw [upd_ne (ne_of_none hb hD)]
            exact sm6 _ _ hb
          · have e : (fun ys => lc2R fl g tst it1 vs1 g1 tst1 elt (forget vs δ) (ds.drop (i + 1)) fun zs => q (.lst ((as1 ++ [dy]) ++ (ys ++ zs)))) = fun ys => lc2R fl g tst it1 vs1 g1 tst1 elt (forget vs δ) (ds.drop (i + 1)) fun zs => q (.lst (as1 ++ ((dy :: ys) ++ zs))) := funext fun ys => by
              have e2 : (fun zs => q (.lst ((as1 ++ [dy]) ++ (ys ++ zs)))) = fun zs => q (.lst (as1 ++ ((dy :: ys) ++ zs))) := funext fun zs => by
                rw [List.append_assoc] <;> rfl
              rw [e2]
            rw [e]
            exact h10
      · have e : j = ds1.length := by omega
        subst e
        rw [List.drop_length] at h6
        have h6' : lc2R fl g tst it1 vs1 g1 tst1 elt (forget vs δ) (ds.drop (i + 1)) fun zs => q (.lst (as1 ++ ([] ++ zs))) := h6
        refine .inl ⟨Dv1.stop H6 sH6, as1, mkLe mk6 ?_, h6'⟩
        omega
  · have e : i = ds.length := by omega
    subst e
    rw [List.drop_length] at hl
    have hl' : q (.lst (as ++ [])) := hl
    rw [List.append_nil] at hl'
    refine .inl ⟨Dv.stop H' sH, ok _ _ (.lst as) sm ⟨D, rfl, hD, acc, hacc, RepA.same ?_ ra⟩ hl'⟩
    refine same_cut (Same.refl _) fun b _ z => ?_
    rcases z with (z | z) | z
    · exact .inl (own_keep b vs hno z)
    · exact .inr (.inl z)
    · exact .inr (.inr z)
end
/-! ### .. over the keys of a slot's own dict -/
def eLc2O (i : Nat) (own : List Nat) (tg : GT) (tst : BT) (it1 : IT) (vs1 : List Nat) (tg1 : GT) (tst1 : BT) (elt : ET) : ET := fun _ δ q => match getS δ i with
  | .ow (.dic kds) => (noOw own δ ∧ kds.length ≤ 1000) ∧ lc2R .sh tg tst it1 vs1 tg1 tst1 elt (forget own (soft (setS δ i (.sh (.dic kds))))) (kds.map fun kv => keyToD kv.1) fun ys => noDicA ys = true ∧ q .nw (.lst ys)
  | _ => False
section
variable {X : Cx} {W : WX} {it1 : IT} {g g1 : GT} {ws ws1 vs vs1 : List Nat} {tst tst1 : BT} {elt : ET}
theorem lift_lc2O (i : Nat) (hw : ∀ j ∈ ws, j ∈ vs) (hm : 1000 ∉ ws) (hw1 : ∀ j ∈ ws1, j ∈ vs1) (hm1 : 1000 ∉ ws1) : ∀ σ H Q, Lift X.K W (eLc2O i vs g tst it1 vs1 g1 tst1 elt) σ H Q →
    tLockE (tLc2 (iKeys (tVar i)) (LiftG X.K ws g) (LiftT X.K W0 tst) (LiftIt X.K W0 it1) (LiftG X.K ws1 g1) (LiftT X.K W0 tst1) (Lift X.K W0 elt) vs vs1) σ H Q := by
  rintro σ H Q ⟨B, δ, e, q, r, h, ok, bad⟩
  unfold eLc2O at h
  split at h
  · rename_i kds hg
    have hi := getS_some hg (fun z => nomatch z)
    obtain ⟨a, ev, hB, kvs, hd, rk⟩ := r.sl i _ hi
    refine ⟨a, .dK kvs, hd, trivial, fun od => ?_⟩
    obtain ⟨r1, s1⟩ := r.frzSh hg
    obtain ⟨nh, hf⟩ := hid_freed r hi ev
    have rl := rel_lock (od := od) r1 hd hB nh
    refine ⟨.ref a, ev, a, od, rfl, .inl ⟨kvs, upd_same, ?_⟩⟩
    have free : (Frz B (upd H a (.frz od (.dK kvs))) (soft (setS δ i (.sh (.dic kds)))) σ) a = some (.frz od (.dK kvs)) := cut_some.mpr ⟨fun z => nh (soft_hid.mp z), upd_same⟩
    have go := lc2_run (tst := tst) (it1 := it1) (tst1 := tst1) (elt := elt) (g := g) (g1 := g1) (Q := fun v H' => H' a = some (.frz od (.dK kvs)) ∧ Q v (upd H' a (.dK kvs))) (q := fun d => (match d with | .lst ys => noDicA ys = true | _ => False) ∧ q .nw d) hw hm hw1 hm1 rl (dlv_keys free rk.keys)
      ⟨⟨noOw_soft.mpr (noOw_set (s := .sh (.dic kds)) (fun d z => nomatch z) _ h.1.1), by rw [List.length_map]; exact h.1.2⟩, h.2⟩ fun v H' d s R hq => by
      have at2 : H' a = some (.frz od (.dK kvs)) := s _ _ upd_same
      refine ⟨at2, ?_⟩
      obtain ⟨hn, hq⟩ := hq
      cases d with
      | lst ys =>
        obtain ⟨p, rfl, n, kv2, o1, o2⟩ := R
        have np : p ≠ a := fun z => by
          rw [z, upd_same] at n
          cases n
        rw [upd_ne np] at n
        refine ok _ _ .nw (.lst ys) (fun b o e => ?_) ⟨p, rfl, n, kv2, by rw [upd_ne np]; exact o1, RepA.noDic (fun b o e no => ?_) _ _ hn o2⟩ hq
        · by_cases c : b = a
          · subst c
            rw [upd_same, ← hd, e]
          · rw [upd_ne c]
            exact s b o (by rw [upd_ne c]; exact e)
        · obtain ⟨e1, e2⟩ := cut_some.mp e
          have c : b ≠ a := fun z => by
            rw [z, at2] at e2
            cases e2
            exact no _ _ rfl
          refine cut_some.mpr ⟨fun z => ?_, by rw [upd_ne c]; exact e2⟩
          rcases z with z | z
          · rcases hf b z with z | z
            · exact e1 (.inl (soft_hid.mpr z))
            · exact c z
          · exact e1 (.inr z)
      | _ => exact hn.elim
    exact go
  · exact h.elim
theorem ds_setLc2O {j : Nat} {y : Str} {py : Pos} {eltx tg tg1 iter1 : Expr} {x : Str} {xpos : Pos} {ifs ifs1 : List Expr} {scope : Scope} {pos spos : Pos} (i : Nat) (own : List (Str × Nat)) (hc : X.calm = true) (hN : X.N.Nodup) (ok : BlkOk X.N X.env.scope scope own)
    (hg : InBlk X scope fun Y => DG Y ws tg g) (ht : InBlk X scope fun Y => DTs Y W0 ifs tst) (hi1 : InBlk X scope fun Y => DIt Y W0 tg1 iter1 it1) (hg1 : InBlk X scope fun Y => DG Y ws1 tg1 g1) (ht1 : InBlk X scope fun Y => DTs Y W0 ifs1 tst1) (he : InBlk X scope fun Y => DE Y W0 eltx elt)
    (hsw : swapsWith (.ListComp eltx [⟨tg, .Name x xpos, ifs, 0⟩, ⟨tg1, iter1, ifs1, 0⟩] scope pos) (some (.Name y py)) spos.line X.env = pure true)
    (hy : X.N[j]? = some y := by rfl) (hyl : X.env.scope.names.lookup y = some .local := by rfl) (hv1 : ∀ i ∈ vs1, i ∈ own.map (·.2) := by decide)
    (hw : ∀ j ∈ ws, j ∈ own.map (·.2) := by decide) (hm : 1000 ∉ ws := by decide) (hw1 : ∀ j ∈ ws1, j ∈ vs1 := by decide) (hm1 : 1000 ∉ ws1 := by decide) (hi : X.N[i]? = some x := by rfl) (hv : Vis X.env.scope x := by first | exact Or.inl rfl | exact Or.inr (Or.inl rfl) | exact Or.inr (Or.inr rfl)) (hd : (x == ("__debug__" : Str)) = false := by decide)
    (hcd : (x == ("__classdict__" : Str)) = false := by decide) (hs : ∀ y, foldedSetIterable (.Name x xpos) X.env y = pure y := by intro _; rfl) (hs1 : ∀ env x, foldedSetIterable iter1 env x = pure x := by intro _ _; rfl) :
    DS X W (.Assign [.Name y py] (.ListComp eltx [⟨tg, .Name x xpos, ifs, 0⟩, ⟨tg1, iter1, ifs1, 0⟩] scope pos) spos) (sSet j (eLc2O i (own.map (·.2)) g tst it1 vs1 g1 tst1 elt)) :=
  PS.imp (ps_lock (ps_setLc2 hc hN hy hyl hsw (pi_keys (pv i hi hv hd hcd)) ok hv1 hg ht hi1 hg1 ht1 he hs hs1)) fun N σ H ⟨B, δ, E, r, h, nx, rt, bk, ct, xe⟩ =>
  lift_lc2O (W := W) i hw hm hw1 hm1 σ H (fun v H => N.nx (σ.set j (some v)) H) ⟨B, δ, fun x => E.xe x δ, _, r, h, fun v H' g d s R hq => slot_ok r s R hq nx, fun cls dx H' x s xr hx => xe cls dx δ σ H' x (r.ext s) (DRel.frz_ext s) xr hx⟩
end
end DL
namespace DL
open PySem PySem.Spec PyProof.Rows L2
/-! ### range(n, 0, -1) -/
def downD (n : Nat) : List D := (List.range n).map fun (k : Nat) => .int ((n : Int) - (k : Int))
theorem dlv_down {K : PySem.W.Frag} {Z : Hp} (n : Nat) : Dlv K Z (L2.Itc (n : Int) (-1) n) .sh (downD n) := by
  have el : (downD n).length = n := by unfold downD; rw [List.length_map, List.length_range]
  refine ⟨fun H _ => by show n ≤ _; rw [el]; exact Nat.le_refl _, fun H i _ hi => by rw [el] at hi; exact hi, fun H i x H' _ hi y => ?_⟩
  obtain ⟨e, ex⟩ := y
  rw [el] at hi
  refine ⟨.int ((n : Int) - i), ?_, .inl ⟨e, ?_, rfl⟩⟩
  · unfold downD
    rw [List.getElem?_map, List.getElem?_range hi] <;> rfl
  · rw [ex]
    show V.int _ = V.int _
    congr 1
    omega
def itR3 (t : AT) : IT := fun e δ q => t e δ fun ds => match ds with
  | [.int i, .int j, .int c] => (c = -1 ∧ j = 0 ∧ 0 ≤ i ∧ i ≤ 1000) ∧ q .sh (downD i.toNat)
  | _ => False
section
variable {X : Cx} {W : WX} {a b c tg : Expr} {ti : AT} {p pos : Pos}
theorem it_range3 (hg : Gl X "range") (hm : X.mg "range" = none) (ha : DA X W [a, b, c] ti) (hs : starEach [a, b, c] X.env = (false, eval a X.env) :: starEach [b, c] X.env := by rfl) (hpl : (backTo pos (starEach [b, c] X.env)).any (·.1) = false := by rfl) :
    DIt X W tg (.Call (.Name "range" p) [a, b, c] [] pos) (itR3 ti) :=
  PI.imp (pi_range3 hg hm ha hs hpl) fun σ H R ⟨B, δ, e, q, r, h, ok, bad⟩ => by
  refine ⟨B, δ, e, _, r, h, fun vs H' ds s R' hq => ?_, bad⟩
  split at hq
  · rename_i i j k
    obtain ⟨⟨rfl, rfl, h1, h2⟩, hq⟩ := hq
    have ev : vs = [.int i, .int 0, .int (-1)] := by
      obtain ⟨v, r1, rfl, z, w, r2, rfl, y, u, r3, rfl, x, z3⟩ := R'
      cases (show r3 = [] from z3)
      cases z.int
      cases y.int
      cases x.int
      rfl
    have ei : ((i.toNat : Nat) : Int) = i := by omega
    refine ⟨i, 0, -1, i.toNat, ev, ?_, ?_⟩
    · have := RgC.neg (i := i) (j := 0) (by omega) (by omega) (by omega) (by omega)
      rw [Int.sub_zero] at this
      exact this
    · have := ok _ _ _ _ s (dlv_down i.toNat) hq
      rw [ei] at this
      exact this
  · exact hq.elim
end
end DL

set_option Elab.async false
set_option linter.all false
set_option maxRecDepth 100000
namespace DL
open PySem PySem.Spec PyProof.Rows L2
/-! ### ledgers: what is promised -/
section
variable {T : Tr} {d : Str → Str → Int} {s x y : Str} {b : Int}
theorem lv_node (M : Met T d) {w : Int} (h : (x, w) ∈ T.nodes) : lv T.nodes x = w := lv_of M.nd h
theorem node_of (hx : x ∈ T.names) : ∃ w, (x, w) ∈ T.nodes := by
  obtain ⟨⟨a, w⟩, h, rfl⟩ := List.mem_map.mp hx
  exact ⟨w, h⟩
theorem lv_pos (L : LTree T d) (hx : x ∈ T.names) : 0 ≤ lv T.nodes x := by
  obtain ⟨w, h⟩ := node_of hx
  rw [lv_node L.met h]
  exact (L.wt _ h).1
theorem held_ge (L : LTree T d) (hs : s ∈ T.names) : ∀ (n : Nat) (x : Str), x ∈ T.names → (blw T d s x).length ≤ n → lv T.nodes x ≤ (setR T d s b n x).2.2
  | 0, x, hx, h => absurd (List.length_pos_of_mem (blw_self (s := s) L.met hx)) (by omega)
  | n + 1, x, hx, h => by
    have ih : ∀ y ∈ kidsT T d s x, 0 ≤ (setR T d s b n y).2.2 := fun y hy => by
      obtain ⟨l, hl⟩ := mem_kids.mp hy
      have := blw_lt L.met hs hl
      have yn := (away_mem L.met hl).2.1
      exact Int.le_trans (lv_pos L yn) (held_ge L hs n y yn (by omega))
    obtain ⟨r, e1, e2, _⟩ := cutP_split (b := b) (f := fun y => (setR T d s b n y).2.2) (ordT T d s (fun y => (setR T d s b n y).2.2) x) (lv T.nodes x + sumM (fun y => (setR T d s b n y).2.2) (kidsT T d s x))
    have p := sumM_perm (fun y => (setR T d s b n y).2.2) (sortK_perm (fun y => -((setR T d s b n y).2.2)) (kidsT T d s x))
    have e3 := congrArg (sumM fun y => (setR T d s b n y).2.2) e1
    rw [sumM_append] at e3
    unfold ordT at e3
    rw [p] at e3
    have nr : 0 ≤ sumM (fun y => (setR T d s b n y).2.2) r := sumM_nonneg fun y hy => ih y ((sortK_perm _ _).mem_iff.mp (by
      have : y ∈ ordT T d s (fun y => (setR T d s b n y).2.2) x := by rw [e1]; exact List.mem_append_right _ hy
      exact this))
    unfold setR stepT
    show _ ≤ (cutP _ _ _ _).2
    rw [e2]
    unfold ordT
    omega
theorem heldV_ge (L : LTree T d) (hs : s ∈ T.names) (hx : x ∈ T.names) : lv T.nodes x ≤ (setV T d s b x).2.2 := held_ge L hs 13 x hx (Nat.le_trans (Nat.le_trans (List.length_filter_le _ _) L.n12) (by decide))
theorem heldV_le (L : LTree T d) (hs : s ∈ T.names) (hx : x ∈ T.names) (h : lv T.nodes x ≤ b) : (setV T d s b x).2.2 ≤ b := (held_le L.met L.n12 hs hx).mpr (.inl h)
end
def Heavy (T : Tr) (b : Int) : Prop := ∃ x ∈ T.names, b < lv T.nodes x
def setD (T : Tr) (d : Str → Str → Int) (b : Int) (x : Str) : D := .tup [strsD (setV T d (rootT T) b x).1, .int (setV T d (rootT T) b x).2.1, .int (setV T d (rootT T) b x).2.2]
def rowL (T : Tr) (d : Str → Str → Int) (b : Int) (x : Str) : D := .tup [.str x, .int (setV T d (rootT T) b x).2.1, .int (setV T d (rootT T) b x).2.2]
def pairS (p : Str × Str) : D := .tup [.str p.1, .str p.2]
def goneP (T : Tr) (d : Str → Str → Int) (b : Int) (x : Str) : List (Str × Str) := (setV T d (rootT T) b x).1.map fun y => (minT x y, maxT x y)
def goneQ (T : Tr) (d : Str → Str → Int) (b : Int) (x : Str) : List (Str × Str) := (setV T d (rootT T) b x).1.map fun y => (x, y)
def cutL (T : Tr) (d : Str → Str → Int) (b : Int) : List (Str × Str) := T.names.flatMap (goneP T d b)
def sp_settled : SpT := fun ds e q => ∃ T d b, ds = [treeD T, .int b] ∧ LTree T d ∧ (Heavy T b → q .non) ∧ (¬ Heavy T b → ∀ ks, ks.Nodup → (∀ x, x ∈ ks ↔ x ∈ T.names) → q (.dic (kmap ks (setD T d b))))
def sp_cuts : SpT := fun ds e q => ∃ T d b, ds = [treeD T, .int b] ∧ LTree T d ∧ (Heavy T b → q .non) ∧ (¬ Heavy T b → q (.lst (sortD ((cutL T d b).map pairS))))
def sp_ledger : SpT := fun ds e q => ∃ T d b, ds = [treeD T, .int b] ∧ LTree T d ∧ (Heavy T b → q .non) ∧ (¬ Heavy T b → q (.lst (T.names.map (rowL T d b))))
def hV (T : Tr) (d : Str → Str → Int) (b : Int) (y : Str) : Int := (setV T d (rootT T) b y).2.2
def cV (T : Tr) (d : Str → Str → Int) (b : Int) (y : Str) : Int := (setV T d (rootT T) b y).2.1
def negH (T : Tr) (d : Str → Str → Int) (b : Int) (y : Str) : Int := -(hV T d b y)
def ordV (T : Tr) (d : Str → Str → Int) (b : Int) (x : Str) : List Str := sortK (negH T d b) (kidsT T d (rootT T) x)
theorem row_eq {T : Tr} {d : Str → Str → Int} {b : Int} {x : Str} (L : LTree T d) (hx : x ∈ T.names) : setV T d (rootT T) b x = ((cutP b (hV T d b) (lv T.nodes x + sumM (hV T d b) (kidsT T d (rootT T) x)) (ordV T d b x)).1,
    ((cutP b (hV T d b) (lv T.nodes x + sumM (hV T d b) (kidsT T d (rootT T) x)) (ordV T d b x)).1.length : Int) + sumM (cV T d b) (kidsT T d (rootT T) x), (cutP b (hV T d b) (lv T.nodes x + sumM (hV T d b) (kidsT T d (rootT T) x)) (ordV T d b x)).2) :=
  setV_eq L.met L.n12 (root_in L).1 hx
/-! _settled: some_tree 0, bound 1, settled 2, ways 3, name 4, rows 5, held 6, gone 7, less 8, end 9, _ 10 -/
def N_settled : List Str := ["some_tree", "bound", "settled", "ways", "name", "rows", "held", "gone", "less", "end", "_"]
def t_settled_1 : ST := (sFrz 7 (sAsg (eTup (iCons (eVar 7) (iCons (eOp fAdd (eCB fLen (aCons (eVar 7) aNil)) (eCB fSum (aCons (eLc (itSeq (eVar 5)) [10, 9] (tTup (fits 2 (tsCons (tName 10) (tsCons (tName 9) tsNil)))) bYes (eOp fIx (eOp fIx (eVar 2) (eVar 9)) (eC (.int 1)))) aNil))) (iCons (eVar 6) aNil)))) (tSub 2 (eVar 4))))
def t_settled_2 : ST := (sSeq (sIf (bCmp fGt (eVar 6) (eVar 1)) (sRetL (eC .non)) sNext)
  t_settled_1)
def t_settled_3 : ST := (sRetL (eVar 2))
def t_settled : ST := (sSeq (sSet 2 eDicN)
  (sSeq (sSet 3 (eCallM sp_away_from (aCons (eVar 0) (aCons (eOp fIx (eCall sp_names_of (aCons (eVar 0) aNil)) (eC (.int 0))) aNil))))
  (sSeq (sForget [4, 5, 6, 7, 8, 9] (sFor (itRev (iCons (eCB fListK (aCons (eVar 3) aNil)) aNil)) (tName 4) (sSeq (sSet 5 (eCB fSorted (aCons (eLc (itSeq (eOp fIx (eVar 3) (eVar 4))) [9, 10] (tTup (fits 2 (tsCons (tName 9) (tsCons (tName 10) tsNil)))) bYes (eTup (iCons (eNeg (eOp fIx (eOp fIx (eVar 2) (eVar 9)) (eC (.int 2)))) (iCons (eVar 9) aNil)))) aNil)))
  (sSeq (sFrz 5 (sSet 6 (eOp fSub (eCall sp_weight_of (aCons (eVar 0) (aCons (eVar 4) aNil))) (eCB fSum (aCons (eLc (itSeq (eVar 5)) [8, 10] (tTup (fits 2 (tsCons (tName 8) (tsCons (tName 10) tsNil)))) bYes (eVar 8)) aNil)))))
  (sSeq (sSet 7 (eLst aNil))
  (sSeq (sForget [8, 9] (sFor (itSeq (eVar 5)) (tTup (fits 2 (tsCons (tName 8) (tsCons (tName 9) tsNil)))) (sIf (bCmp fGt (eVar 6) (eVar 1)) (sSeq (sApp 7 (eVar 9))
  (sAug 6 fAug (eVar 8))) sNext) [8, 9]))
  t_settled_2)))) [4, 5, 6, 7, 8, 9]))
  t_settled_3)))
/-! cuts: some_tree 0, bound 1, settled 2, pairs 3, name 4, other 5 -/
def N_cuts : List Str := ["some_tree", "bound", "settled", "pairs", "name", "other"]
def t_cuts_1 : ST := (sSeq (sSet 3 (eLc2O 2 [4, 5] (tName 4) bYes (itSeq (eOp fIx (eOp fIx (eVar 2) (eVar 4)) (eC (.int 0)))) [5] (tName 5) bYes (eTup (iCons (eVar 4) (iCons (eVar 5) aNil)))))
  (sFrzF 3 (sRet (eCB fSorted (aCons (eLc (itSeq (eVar 3)) [4, 5] (tTup (fits 2 (tsCons (tName 4) (tsCons (tName 5) tsNil)))) bYes (eTup (iCons (eCB fMinX (aCons (eVar 4) (aCons (eVar 5) aNil))) (iCons (eCB fMaxX (aCons (eVar 4) (aCons (eVar 5) aNil))) aNil)))) aNil)))))
def t_cuts : ST := (sSeq (sSet 2 (eCallM sp_settled (aCons (eVar 0) (aCons (eVar 1) aNil))))
  (sSeq (sIf (bCmp (fIsN false) (eVar 2) (eC .non)) (sRet (eC .non)) sNext)
  t_cuts_1))
/-! ledger: some_tree 0, bound 1, settled 2, name 3 -/
def N_ledger : List Str := ["some_tree", "bound", "settled", "name"]
def t_ledger_1 : ST := (sRet (eLc (itSeq (eCall sp_names_of (aCons (eVar 0) aNil))) [3] (tName 3) bYes (eTup (iCons (eVar 3) (iCons (eOp fIx (eOp fIx (eVar 2) (eVar 3)) (eC (.int 1))) (iCons (eOp fIx (eOp fIx (eVar 2) (eVar 3)) (eC (.int 2))) aNil))))))
def t_ledger : ST := (sSeq (sSet 2 (eCallM sp_settled (aCons (eVar 0) (aCons (eVar 1) aNil))))
  (sSeq (sIf (bCmp (fIsN false) (eVar 2) (eC .non)) (sRet (eC .non)) sNext)
  t_ledger_1))
theorem len_settled : ∀ ds e q, sp_settled ds e q → ds.length = ["some_tree", "bound"].length := by
  rintro _ e q ⟨T, d, b, rfl, _⟩
  rfl
theorem len_cuts : ∀ ds e q, sp_cuts ds e q → ds.length = ["some_tree", "bound"].length := by
  rintro _ e q ⟨T, d, b, rfl, _⟩
  rfl
theorem len_ledger : ∀ ds e q, sp_ledger ds e q → ds.length = ["some_tree", "bound"].length := by
  rintro _ e q ⟨T, d, b, rfl, _⟩
  rfl
theorem kmap_keysS (ks : List Str) (f : Str → D) : ((kmap ks f).map fun kv => keyToD kv.1) = ks.map D.str := by
  unfold kmap
  rw [List.map_map]
  rfl
theorem subI60 {a b : Int} {q : Tg → D → Prop} (h : q .fz (.int (a - b))) : fSub (.int a) (.int b) q := h
theorem kids_len {T : Tr} {d : Str → Str → Int} (L : LTree T d) (s x : Str) : (kidsT T d s x).length ≤ 1000 := by
  unfold kidsT
  rw [List.length_map]
  refine Nat.le_trans (List.length_filter_le _ _) ?_
  rw [(near_perm x).length_eq]
  exact L.small.adj x
theorem root_at {T : Tr} {d : Str → Str → Int} (L : LTree T d) : rootT T ∈ T.names ∧ atI (T.names.map D.str) 0 = some (.str (rootT T)) := by
  obtain ⟨h, w, e⟩ := root_in L
  refine ⟨h, ?_⟩
  exact at_map D.str (l := T.names) (i := 0) (by rw [Tr.names, List.getElem?_map, e] <;> rfl)
theorem m_settled : ∀ ds e q, sp_settled ds e q → t_settled { nx := fun _ => q .non, rt := q, xe := fun x _ => e x, lent := True } (startD N_settled ds) := by
  rintro _ e q ⟨T, d, b, rfl, L, hN, hQ⟩
  have M := L.met
  obtain ⟨hs, r0⟩ := root_at L
  refine ⟨T, rfl, L.small, .str (rootT T), r0, treeA_args T _, T, T, d, rootT T, rfl, ⟨M, fun _ _ => rfl⟩, L.small, L.small, hs, fun ks hk => ?_⟩
  have kl : ks.length ≤ 1000 := by
    have := len_of_sub hk.nd fun x hx => (hk.mem x).mp hx
    have := L.n12
    omega
  show forR _ _ _ _ _ ((kmap ks (awayD T d (rootT T))).map fun kv => keyToD kv.1).reverse _
  rw [kmap_keysS, ← List.map_reverse]
  refine forR_map D.str (fun r δ => ∃ done, done ++ r = ks.reverse ∧ (∀ x ∈ done, (setV T d (rootT T) b x).2.2 ≤ b) ∧ δ = [.sh (treeD T), .sh (.int b), .ow (.dic (kmap done (setD T d b))), .ow (.dic (kmap ks (awayD T d (rootT T)))), .un, .un, .un, .un, .un, .un, .un]) ?_ ?_ _ _ ⟨[], rfl, fun _ z => (nomatch z), rfl⟩
  · rintro δ ⟨done, e1, hd, rfl⟩
    rw [List.append_nil] at e1
    subst e1
    refine ⟨⟨trivial, rfl⟩, hQ ?_ _ ((List.reverse_perm ks).nodup_iff.mpr hk.nd) fun x => List.mem_reverse.trans (hk.mem x)⟩
    rintro ⟨x, hx, lt⟩
    have := heldV_ge (b := b) L hs hx
    have := hd x (List.mem_reverse.mpr ((hk.mem x).mpr hx))
    omega
  rintro x r δ nx ⟨done, e1, hd, rfl⟩ hnx
  have xk : x ∈ ks := List.mem_reverse.mp (by rw [← e1]; simp)
  have hx := (hk.mem x).mp xk
  have xd : x ∉ done := by
    have nd : (done ++ x :: r).Nodup := by rw [e1]; exact (List.reverse_perm ks).nodup_iff.mpr hk.nd
    exact fun z => (List.nodup_append.mp nd).2.2 x z x (by simp) rfl
  have dl : done.length ≤ 1000 := by
    have := congrArg List.length e1
    rw [List.length_append, List.length_reverse] at this
    omega
  have kids : ∀ y ∈ kidsT T d (rootT T) x, y ∈ done := fun y hy => by
    obtain ⟨l, hl⟩ := mem_kids.mp hy
    have yk := (hk.mem y).mpr (away_mem M hl).2.1
    obtain ⟨l1, l2, e2⟩ := List.append_of_mem yk
    rcases hk.ord l1 y l2 e2 with rfl | ⟨v, hv, k, hk2⟩
    · exact absurd rfl (away_ne M hl)
    · have ev := away_one M hs hk2 hl
      subst ev
      have e3 : ks.reverse = l2.reverse ++ [y] ++ l1.reverse := by rw [e2]; simp
      rw [e3] at e1
      obtain ⟨a1, a2, e4⟩ := List.append_of_mem (List.mem_reverse.mpr hv)
      rw [e4] at e1
      have nd : (l2.reverse ++ [y] ++ (a1 ++ v :: a2)).Nodup := by rw [← e4, ← e3]; exact (List.reverse_perm ks).nodup_iff.mpr hk.nd
      have e5 : done ++ v :: r = (l2.reverse ++ [y] ++ a1) ++ v :: a2 := by rw [e1]; simp
      have nd2 : (done ++ v :: r).Nodup := by rw [e5]; rw [List.append_assoc]; exact nd
      have : done = l2.reverse ++ [y] ++ a1 := by
        have i1 := List.idxOf_append (a := v) (l₁ := done) (l₂ := v :: r)
        have i2 := List.idxOf_append (a := v) (l₁ := l2.reverse ++ [y] ++ a1) (l₂ := v :: a2)
        have nv : v ∉ l2.reverse ++ [y] ++ a1 := fun z => by
          rw [e5] at nd2
          exact (List.nodup_append.mp nd2).2.2 v z v (by simp) rfl
        rw [if_neg xd, List.idxOf_cons_self] at i1
        rw [if_neg nv, List.idxOf_cons_self] at i2
        rw [e5, i2] at i1
        exact (List.append_inj e5 (by omega)).1
      rw [this]
      simp
  obtain ⟨w, hw⟩ := node_of hx
  have lw := lv_node M hw
  have eV := row_eq (b := b) L hx
  have kl2 := kids_len L (rootT T) x
  have ol : (ordV T d b x).length ≤ 1000 := by
    unfold ordV
    rw [(sortK_perm _ _).length_eq]
    exact kl2
  have om : ∀ y, y ∈ ordV T d b x ↔ y ∈ kidsT T d (rootT T) x := fun y => (sortK_perm _ _).mem_iff
  refine ⟨awayD T d (rootT T) x, kmap_look xk, ⟨⟨trivial, trivial, trivial⟩, ?_⟩, ?_⟩
  · rw [List.length_map]
    unfold kidsT at kl2
    rw [List.length_map] at kl2
    exact line1000 kl2
  show lcR _ _ _ _ [.sh (treeD T), .sh (.int b), .ow (.dic (kmap done (setD T d b))), .ow (.dic (kmap ks (awayD T d (rootT T)))), .sh (.str x), .un, .un, .un, .un, .un, .un] ((T.away d (rootT T) x).map nodeD) _
  refine lcR_all nodeD (fun p => rankD (negH T d b) p.1) _ (fun p hp A hA => ?_) _ ?_
  · have yd : p.1 ∈ done := kids p.1 (mem_kids.mpr ⟨p.2, hp⟩)
    exact ⟨rfl, setD T d b p.1, kmap_look yd, .int (hV T d b p.1), rfl, (show 2 ≤ sizeLine by decide), hA⟩
  have ek : (T.away d (rootT T) x).map (fun p => rankD (negH T d b) p.1) = (kidsT T d (rootT T) x).map (rankD (negH T d b)) := by
    unfold kidsT
    rw [List.map_map]
    rfl
  rw [ek]
  refine ⟨srtbK _ _, ?_⟩
  rw [sortK_map]
  refine ⟨T, x, w, rfl, M.nd, hw, ?_⟩
  refine ⟨⟨⟨trivial, trivial, trivial⟩, by rw [List.length_map]; exact line1000 ol⟩, ?_⟩
  show lcR _ _ _ _ [.sh (treeD T), .sh (.int b), .ow (.dic (kmap done (setD T d b))), .ow (.dic (kmap ks (awayD T d (rootT T)))), .sh (.str x), .sh (.lst ((ordV T d b x).map (rankD (negH T d b)))), .un, .un, .un, .un, .un] ((ordV T d b x).map (rankD (negH T d b))) _
  refine lcR_all (rankD (negH T d b)) (fun y => .int (negH T d b y)) _ (fun y hy A hA => ⟨rfl, hA⟩) _ ?_
  refine ⟨_, allI_mapN (negH T d b) _, ?_⟩
  have e0 : w - ((ordV T d b x).map (negH T d b)).sum = lv T.nodes x + sumM (hV T d b) (kidsT T d (rootT T) x) := by
    rw [sumM_eq, lw]
    have := sumM_perm (negH T d b) (sortK_perm (negH T d b) (kidsT T d (rootT T) x))
    unfold ordV
    rw [this]
    have n : ∀ l : List Str, sumM (negH T d b) l = -(sumM (hV T d b) l) := fun l => by
      induction l with
      | nil => rfl
      | cons a l ih =>
        rw [sumM, sumM, ih]
        unfold negH
        omega
    rw [n]
    omega
  refine subI60 (a := w) (b := ((ordV T d b x).map (negH T d b)).sum) ?_
  rw [e0]
  refine ⟨Nat.zero_le _, ?_⟩
  show forR _ _ _ _ _ ((ordV T d b x).map (rankD (negH T d b))) _
  refine forR_map (rankD (negH T d b)) (fun r δ => ∃ g h, (g ++ (cutP b (hV T d b) h r).1, (cutP b (hV T d b) h r).2) = cutP b (hV T d b) (lv T.nodes x + sumM (hV T d b) (kidsT T d (rootT T) x)) (ordV T d b x) ∧ g.length + r.length ≤ 1000 ∧
    δ = [.sh (treeD T), .sh (.int b), .ow (.dic (kmap done (setD T d b))), .ow (.dic (kmap ks (awayD T d (rootT T)))), .sh (.str x), .sh (.lst ((ordV T d b x).map (rankD (negH T d b)))), .sh (.int h), .ow (strsD g), .un, .un, .un]) ?_ ?_ _ _ ⟨[], _, rfl, by rw [List.length_nil]; omega, rfl⟩
  · rintro δ ⟨g, h, e2, gl, rfl⟩
    have e2 : (g ++ [], h) = cutP b (hV T d b) (lv T.nodes x + sumM (hV T d b) (kidsT T d (rootT T) x)) (ordV T d b x) := e2
    rw [List.append_nil] at e2
    rw [← e2] at eV
    refine ite2D (fun c => ?_) fun c => ?_
    · have c : b < h := of_decide_eq_true c
      refine ⟨⟨trivial, rfl⟩, hN ⟨x, hx, ?_⟩⟩
      rcases Int.lt_or_le b (lv T.nodes x) with q | q
      · exact q
      · have := heldV_le (b := b) L hs hx q
        rw [eV] at this
        have : h ≤ b := this
        omega
    · have c : ¬ b < h := of_decide_eq_false c
      refine ⟨⟨⟨trivial, trivial, trivial⟩, by rw [List.length_map]; exact line1000 ol⟩, ?_⟩
      show lcR _ _ _ _ [.sh (treeD T), .sh (.int b), .ow (.dic (kmap done (setD T d b))), .ow (.dic (kmap ks (awayD T d (rootT T)))), .sh (.str x), .sh (.lst ((ordV T d b x).map (rankD (negH T d b)))), .sh (.int h), .sh (strsD g), .un, .un, .un] ((ordV T d b x).map (rankD (negH T d b))) _
      refine lcR_all (rankD (negH T d b)) (fun y => .int (cV T d b y)) _ (fun y hy A hA => ?_) _ ?_
      · have yd : y ∈ done := kids y ((om y).mp hy)
        exact ⟨rfl, setD T d b y, kmap_look yd, .int (cV T d b y), rfl, hA⟩
      refine ⟨_, allI_mapN (cV T d b) _, (show 3 ≤ sizeLine by decide), fun z => (nomatch z), ?_⟩
      refine ⟨by unfold kmap; rw [List.length_map]; exact lt1000 dl, ?_⟩
      have es : D.tup [strsD g, .int (((g.map D.str).length : Int) + ((ordV T d b x).map (cV T d b)).sum), .int h] = setD T d b x := by
        unfold setD
        rw [eV, List.length_map, sumM_eq]
        have := sumM_perm (cV T d b) (sortK_perm (negH T d b) (kidsT T d (rootT T) x))
        unfold ordV
        rw [this]
      have ep := kmap_put (f := setD T d b) xd es
      show nx _
      refine hnx _ ⟨done ++ [x], by rw [List.append_assoc]; exact e1, fun z hz => ?_, ?_⟩
      · rcases List.mem_append.mp hz with hz | hz
        · exact hd z hz
        · rw [List.mem_singleton.mp hz, eV]
          show h ≤ b
          omega
      · rw [← ep]
        rfl
  · rintro y r' δ nx' ⟨g, h, e2, gl, rfl⟩ hnx'
    refine ⟨rfl, ?_⟩
    refine ite2D (fun c => ?_) fun c => ?_
    · have c : b < h := of_decide_eq_true c
      rw [cutP, if_pos c] at e2
      refine ⟨by rw [List.length_map]; exact lt1000 (by rw [List.length_cons] at gl; omega), ?_⟩
      refine hnx' _ ⟨g ++ [y], h - hV T d b y, ?_, by rw [List.length_append, List.length_singleton]; rw [List.length_cons] at gl; omega, ?_⟩
      · rw [← e2, List.append_assoc]
        rfl
      · have e3 : strsD (g ++ [y]) = .lst (g.map D.str ++ [.str y]) := by
          unfold strsD
          rw [List.map_append]
          rfl
        rw [e3]
        rfl
    · have c : ¬ b < h := of_decide_eq_false c
      rw [cutP, if_neg c] at e2
      exact hnx' _ ⟨g, h, e2, by rw [List.length_cons] at gl; omega, rfl⟩

theorem lc2R_all {α : Type} (F : α → D) (G : α → List D) {f : Gv} {tg tg1 : GT} {it1 : IT} {vs1 : List Nat} {tst tst1 : BT} {elt : ET} {δ : DSt} :
    ∀ (l : List α), (∀ a ∈ l, ∀ A : List D → Prop, A (G a) → tg f (F a) δ fun δ2 => tst xn δ2 fun b => b = true ∧ it1 xn δ2 fun f1 ds1 => (noOw vs1 δ2 ∧ ds1.length ≤ 1000) ∧ lcR f1 tg1 tst1 elt (forget vs1 δ2) ds1 A) →
      (hm : ∀ (f : Gv) (d : D) (δ : DSt) (p q : DSt → Prop), (∀ x, p x → q x) → tg f d δ p → tg f d δ q) → (ht : ∀ (δ : DSt) (p q : Bool → Prop), (∀ x, p x → q x) → tst xn δ p → tst xn δ q) →
      ∀ (q : List D → Prop), q (l.flatMap G) → lc2R f tg tst it1 vs1 tg1 tst1 elt δ (l.map F) q
  | [], _, _, _, q, hq => hq
  | a :: l, h, hm, ht, q, hq => by
    have := h a (by simp) (fun ys => lc2R f tg tst it1 vs1 tg1 tst1 elt δ (l.map F) fun zs => q (ys ++ zs)) (lc2R_all F G l (fun b hb => h b (List.mem_cons_of_mem _ hb)) hm ht _ hq)
    refine hm _ _ _ _ _ (fun δ2 z => ht _ _ _ (fun b z => ?_) z) this
    rw [if_pos z.1]
    exact z.2
theorem sortP_map (l : List (Str × Str)) : sortD (l.map pairS) = (l.mergeSort fun a b => leD (pairS a) (pairS b)).map pairS := (List.map_mergeSort (f := pairS) (s := leD) (r := fun a b => leD (pairS a) (pairS b)) fun _ _ _ _ => rfl).symm
theorem sortD_perm2 {ds es : List D} (h : SrtbD es) (p : ds.Perm es) : sortD ds = sortD es := sortD_eq h ((sortD_perm ds).trans p) (sortD_pair ds)
theorem srtbP (l : List (Str × Str)) : SrtbD (l.map pairS) := .inr ⟨false, [false], fun d hd => by
  obtain ⟨p, _, rfl⟩ := List.mem_map.mp hd
  exact ⟨_, rfl, rfl, rfl⟩⟩
theorem treeB_args (T : Tr) (b : Int) : immA [treeD T, .int b] = true := by
  show ((treeD T).imm && (true && true)) = true
  rw [treeA_imm] <;> rfl
theorem cut_len {T : Tr} {d : Str → Str → Int} {b : Int} {x : Str} (L : LTree T d) (hx : x ∈ T.names) : (setV T d (rootT T) b x).1.length ≤ (kidsT T d (rootT T) x).length := by
  rw [row_eq L hx]
  obtain ⟨r, e, _⟩ := cutP_split (b := b) (f := hV T d b) (ordV T d b x) (lv T.nodes x + sumM (hV T d b) (kidsT T d (rootT T) x))
  have := congrArg List.length e
  rw [List.length_append] at this
  have p := (sortK_perm (negH T d b) (kidsT T d (rootT T) x)).length_eq
  unfold ordV at this ⊢
  show (cutP _ _ _ _).1.length ≤ _
  omega
theorem m_cuts : ∀ ds e q, sp_cuts ds e q → t_cuts { nx := fun _ => q .non, rt := q, xe := fun x _ => e x } (startD N_cuts ds) := by
  rintro _ e q ⟨T, d, b, rfl, L, hN, hQ⟩
  refine ⟨treeB_args T b, T, d, b, rfl, L, fun hv => ?_, fun hv ks nd mk => ?_⟩
  · show sSeq (sIf (bCmp (fIsN false) (eVar 2) (eC .non)) (sRet (eC .non)) sNext) t_cuts_1 { nx := fun _ => q .non, rt := q, xe := fun x _ => e x } [.sh (treeD T), .sh (.int b), .sh .non, .un, .un, .un]
    show sIf (bCmp (fIsN false) (eVar 2) (eC .non)) (sRet (eC .non)) sNext _ _
    exact ⟨rfl, hN hv⟩
  have M := L.met
  have kl : ks.length ≤ 1000 := by
    have := len_of_sub nd fun x hx => (mk x).mp hx
    have := L.n12
    omega
  have go : t_cuts_1 { nx := fun _ => q .non, rt := q, xe := fun x _ => e x } [.sh (treeD T), .sh (.int b), .ow (.dic (kmap ks (setD T d b))), .un, .un, .un] := by
    refine ⟨⟨⟨trivial, trivial, trivial⟩, by unfold kmap; rw [List.length_map]; exact kl⟩, ?_⟩
    show lc2R _ _ _ _ _ _ _ _ [.sh (treeD T), .sh (.int b), .sh (.dic (kmap ks (setD T d b))), .un, .un, .un] _ _
    rw [kmap_keysS]
    refine lc2R_all D.str (fun x => (goneQ T d b x).map pairS) ks (fun x hx A hA => ?_) (fun f d δ p q h z => ?_) (fun δ p q h z => h _ z) _ ⟨?_, ?_⟩
    · refine ⟨rfl, setD T d b x, kmap_look hx, strsD (setV T d (rootT T) b x).1, rfl, ⟨⟨trivial, trivial⟩, ?_⟩, ?_⟩
      · show ((setV T d (rootT T) b x).1.map D.str).length ≤ 1000
        rw [List.length_map]
        exact Nat.le_trans (cut_len L ((mk x).mp hx)) (kids_len L _ x)
      · show lcR _ _ _ _ [.sh (treeD T), .sh (.int b), .sh (.dic (kmap ks (setD T d b))), .un, .sh (.str x), .un] ((setV T d (rootT T) b x).1.map D.str) _
        refine lcR_all D.str (fun y => pairS (x, y)) _ (fun y hy A hA => ⟨(show 2 ≤ sizeLine by decide), hA⟩) _ ?_
        unfold goneQ at hA
        rw [List.map_map] at hA
        exact hA
    · cases f with
      | wk => exact ⟨z.1, h _ z.2⟩
      | fr => exact h _ z
      | sh => exact h _ z
    · rw [← List.map_flatMap]
      exact noDicA_map (fun _ => rfl) _
    rw [← List.map_flatMap]
    have pl : (ks.flatMap (goneQ T d b)).length ≤ 12 * 1000 := by
      have : ∀ l : List Str, (∀ x ∈ l, x ∈ T.names) → (l.flatMap (goneQ T d b)).length ≤ l.length * 1000 := fun l => by
        induction l with
        | nil => intro _; exact Nat.le_refl _
        | cons a l ih =>
          intro h
          have h1 := ih fun x hx => h x (List.mem_cons_of_mem _ hx)
          have h2 : (goneQ T d b a).length ≤ 1000 := by
            unfold goneQ
            rw [List.length_map]
            exact Nat.le_trans (cut_len L (h a (by simp))) (kids_len L _ a)
          rw [List.flatMap_cons, List.length_append, List.length_cons]
          omega
      have h1 := this ks fun x hx => (mk x).mp hx
      have h2 := len_of_sub nd fun x hx => (mk x).mp hx
      have := L.n12
      omega
    show sFrzF 3 _ _ [.sh (treeD T), .sh (.int b), .ow (.dic (kmap ks (setD T d b))), .ow (.lst ((ks.flatMap (goneQ T d b)).map pairS)), .un, .un]
    refine ⟨immA_map (fun _ => rfl) _, ?_⟩
    refine ⟨⟨⟨trivial, trivial, trivial⟩, by rw [List.length_map]; exact Nat.le_trans pl (by decide)⟩, ?_⟩
    show lcR _ _ _ _ [.sh (treeD T), .sh (.int b), .ow (.dic (kmap ks (setD T d b))), .fr (.lst ((ks.flatMap (goneQ T d b)).map pairS)), .un, .un] ((ks.flatMap (goneQ T d b)).map pairS) _
    refine lcR_all pairS (fun p => pairS (minT p.1 p.2, maxT p.1 p.2)) _ (fun p hp A hA => ?_) _ ?_
    · exact ⟨rfl, (show 2 ≤ sizeLine by decide), hA⟩
    have e1 : (ks.flatMap (goneQ T d b)).map (fun p => pairS (minT p.1 p.2, maxT p.1 p.2)) = (ks.flatMap (goneP T d b)).map pairS := by
      rw [List.map_flatMap, List.map_flatMap]
      refine congrArg (fun f => ks.flatMap f) (funext fun x => ?_)
      unfold goneQ goneP
      rw [List.map_map, List.map_map]
      rfl
    have e2 : sortD ((ks.flatMap (goneP T d b)).map pairS) = sortD ((cutL T d b).map pairS) := sortD_perm2 (srtbP _) ((List.Perm.flatMap_right _ ((List.perm_ext_iff_of_nodup nd M.nd).mpr mk)).map _)
    rw [e1]
    refine ⟨srtbP _, ?_⟩
    rw [e2]
    refine ⟨?_, hQ hv⟩
    rw [sortP_map]
    exact immA_map (fun _ => rfl) _
  exact go
theorem m_ledger : ∀ ds e q, sp_ledger ds e q → t_ledger { nx := fun _ => q .non, rt := q, xe := fun x _ => e x } (startD N_ledger ds) := by
  rintro _ e q ⟨T, d, b, rfl, L, hN, hQ⟩
  refine ⟨treeB_args T b, T, d, b, rfl, L, fun hv => ?_, fun hv ks nd mk => ?_⟩
  · show sSeq (sIf (bCmp (fIsN false) (eVar 2) (eC .non)) (sRet (eC .non)) sNext) t_ledger_1 { nx := fun _ => q .non, rt := q, xe := fun x _ => e x } [.sh (treeD T), .sh (.int b), .sh .non, .un]
    exact ⟨rfl, hN hv⟩
  have go : t_ledger_1 { nx := fun _ => q .non, rt := q, xe := fun x _ => e x } [.sh (treeD T), .sh (.int b), .ow (.dic (kmap ks (setD T d b))), .un] := by
    refine ⟨T, rfl, L.small, ⟨⟨trivial, trivial⟩, by rw [List.length_map]; exact line1000 (Nat.le_trans L.n12 (by decide))⟩, ?_⟩
    show lcR _ _ _ _ [.sh (treeD T), .sh (.int b), .ow (.dic (kmap ks (setD T d b))), .un] (T.names.map D.str) _
    refine lcR_all D.str (rowL T d b) _ (fun x hx A hA => ⟨setD T d b x, kmap_look ((mk x).mpr hx), .int (setV T d (rootT T) b x).2.1, rfl, setD T d b x, kmap_look ((mk x).mpr hx), .int (setV T d (rootT T) b x).2.2, rfl, (show 3 ≤ sizeLine by decide), hA⟩) _ ?_
    exact ⟨immA_map (fun _ => rfl) _, hQ hv⟩
  exact go
end DL

set_option Elab.async false
set_option linter.all false
set_option maxRecDepth 100000
/-! Ledgers, as the law takes them: the greatest one first, the lesser name of those. -/
namespace DL
open PySem PySem.Spec PyProof.Rows L2
theorem rank_inj {k : Str → Int} : ∀ {l1 l2 : List Str}, l1.map (rankD k) = l2.map (rankD k) → l1 = l2
  | [], [], _ => rfl
  | [], _ :: _, e => nomatch e
  | _ :: _, [], e => nomatch e
  | a :: l1, c :: l2, e => by
    obtain ⟨e1, e2⟩ := List.cons.inj e
    have : a = c := by
      unfold rankD at e1
      have := D.tup.inj e1
      have := (List.cons.inj this).2
      exact D.str.inj (List.cons.inj this).1
    rw [this, rank_inj e2]
theorem sortK_tail {k : Str → Int} {l : List Str} {o : Str} {r : List Str} (nd : l.Nodup) (e : sortK k l = o :: r) : sortK k (l.filter fun y => decide (y ≠ o)) = r := by
  have p := sortK_perm k l
  rw [e] at p
  have nd2 := p.nodup_iff.mpr nd
  have no := (List.nodup_cons.mp nd2).1
  have p2 : (l.filter fun y => decide (y ≠ o)).Perm r := by
    have h := (p.filter fun y => decide (y ≠ o)).symm
    have e1 : (o :: r).filter (fun y => decide (y ≠ o)) = r := by
      rw [List.filter_cons_of_neg (by simp)]
      refine List.filter_eq_self.mpr fun y hy => decide_eq_true fun z => no (z ▸ hy)
    rw [e1] at h
    exact h
  have m := sortK_map k l
  rw [e, List.map_cons] at m
  have pw := sortD_pair (l.map (rankD k))
  rw [m] at pw
  have := sortD_eq (srtbK k (l.filter fun y => decide (y ≠ o))) (p2.symm.map (rankD k)) (List.pairwise_cons.mp pw).2
  rw [sortK_map] at this
  exact (rank_inj this).symm
theorem sortK_hd {k : Str → Int} {l : List Str} {o : Str} {r : List Str} (e : sortK k l = o :: r) : o ∈ l ∧ ∀ y ∈ l, k o < k y ∨ k o = k y ∧ ¬ y.cps.toList < o.cps.toList := by
  have p := sortK_perm k l
  rw [e] at p
  have m := sortK_map k l
  rw [e, List.map_cons] at m
  have pw := sortD_pair (l.map (rankD k))
  rw [m] at pw
  refine ⟨p.mem_iff.mp (by simp), fun y hy => ?_⟩
  rcases List.mem_cons.mp (p.mem_iff.mpr hy) with rfl | hy
  · exact .inr ⟨rfl, List.lt_irrefl _⟩
  have h : lexS [.inl (k y), .inr y.cps.toList] [.inl (k o), .inr o.cps.toList] = false := (List.pairwise_cons.mp pw).1 _ (List.mem_map.mpr ⟨y, hy, rfl⟩)
  by_cases e : k y = k o
  · refine .inr ⟨e.symm, ?_⟩
    rw [lexS, if_pos (by rw [e])] at h
    exact (lexS_str o y).mp h
  · rw [lexS, if_neg (fun z => e (Sum.inl.inj z))] at h
    have : ¬ k y < k o := of_decide_eq_false h
    left
    omega
/-- among those that ascend, the first of the greatest -/
theorem pick_hd {f : Str → Int} {l : List Str} {o : Str} {r : List Str} (asc : l.Pairwise fun x y => x.cps.toList < y.cps.toList) (e : sortK (fun y => -(f y)) l = o :: r) :
    (l.filter fun y => decide (f y = f o))[0]? = some o := by
  obtain ⟨ho, h⟩ := sortK_hd e
  have a2 := asc.filter fun y => decide (f y = f o)
  have mo : o ∈ l.filter fun y => decide (f y = f o) := List.mem_filter.mpr ⟨ho, decide_eq_true rfl⟩
  cases q : l.filter fun y => decide (f y = f o) with
  | nil => rw [q] at mo; cases mo
  | cons z t =>
    rw [q] at mo a2
    have hz : z ∈ l.filter fun y => decide (f y = f o) := by rw [q]; simp
    obtain ⟨hz1, hz2⟩ := List.mem_filter.mp hz
    have hz2 : f z = f o := of_decide_eq_true hz2
    rcases List.mem_cons.mp mo with e1 | e1
    · rw [e1]; rfl
    · have lt := (List.pairwise_cons.mp a2).1 o e1
      rcases h z hz1 with h | ⟨_, h⟩
      · omega
      · exact absurd lt h
theorem sortK_ne {k : Str → Int} {l : List Str} (h : l ≠ []) : ∃ o r, sortK k l = o :: r := by
  cases e : sortK k l with
  | nil =>
    have := (sortK_perm k l).length_eq
    rw [e] at this
    exact absurd (List.length_eq_zero_iff.mp this.symm) h
  | cons o r => exact ⟨o, r, rfl⟩
section
variable {T : Tr} {d : Str → Str → Int} {s x y : Str}
/-- a way is one longer at a neighbor beyond -/
theorem way_kid (M : Met T d) (hs : s ∈ T.names) {wy : Str → List Str} (hw : ∀ x ∈ T.names, WayOk T d s x (wy x)) {l : Int} (h : (y, l) ∈ T.away d s x) : (wy y).length = (wy x).length + 1 := by
  obtain ⟨hx, hy, _, e⟩ := away_mem M h
  have w := (hw x hx).snoc M hs hx (mem_away.mp h).1 e
  rw [(hw y hy).path.eq w.path, List.length_append]
  rfl
/-- those with longer ways are those beyond -/
theorem way_more (M : Met T d) (hs : s ∈ T.names) {wy : Str → List Str} (hw : ∀ x ∈ T.names, WayOk T d s x (wy x)) : ((T.near x).filter fun p => decide ((wy x).length < (wy p.1).length)) = T.away d s x := by
  unfold Tr.away
  refine List.filter_congr fun p hp => ?_
  have ha : (p.1, p.2) ∈ T.adj x := (near_perm x).mem_iff.mp hp
  obtain ⟨hx, hy, h1, _⟩ := M.mem ha
  rcases M.step hs ha with e | e
  · have := way_kid M hs hw (mem_away.mpr ⟨ha, e⟩)
    rw [decide_eq_true e]
    exact decide_eq_true (by omega)
  · have := way_kid M hs hw (x := p.1) (mem_away.mpr ⟨M.sym ha, e⟩)
    rw [decide_eq_false (show ¬ d s p.1 = d s x + p.2 by omega)]
    exact decide_eq_false (by omega)
theorem near_asc (M : Met T d) : ((T.near x).map (·.1)).Pairwise fun x y => x.cps.toList < y.cps.toList := by
  show ((sort2 (T.adj x)).map (·.1)).Pairwise _
  rw [List.pairwise_map]
  have p1 := List.pairwise_mergeSort (le := fun a b => leD (nodeD a) (nodeD b)) (fun a b c => leD_trans _ _ _) (fun a b => leD_total _ _) (T.adj x)
  have p2 : (sort2 (T.adj x)).Pairwise fun a b => a.1 ≠ b.1 := List.pairwise_map.mp (((sort2_perm (T.adj x)).map Prod.fst).nodup_iff.mpr (M.adjNd x))
  exact (p1.and p2).imp fun {a b} z => leD_node z.1 z.2
theorem kids_asc (M : Met T d) : (kidsT T d s x).Pairwise fun x y => x.cps.toList < y.cps.toList := by
  have h := near_asc (x := x) M
  rw [List.pairwise_map] at h
  unfold kidsT Tr.away
  rw [List.pairwise_map]
  exact h.filter _
end
theorem sortK_strsW {r : List Str} (hn : r.Nodup) {ys : List Key} (p : ys.Perm (r.map Sum.inr)) (so : ys.Pairwise fun x y => lexS [skK y] [skK x] = false) : ∃ zs, ys.map keyToD = zs.map D.str ∧ AscT zs ∧ ∀ x, x ∈ zs ↔ x ∈ r := by
  have all : ∀ k ∈ ys, ∃ x ∈ r, k = Sum.inr x := fun k hk => by
    obtain ⟨x, hx, rfl⟩ := List.mem_map.mp (p.mem_iff.mp hk)
    exact ⟨x, hx, rfl⟩
  let f : Key → Str := fun k => match k with | .inr x => x | .inl _ => Str.empty
  have ey : ys = (ys.map f).map Sum.inr := by
    rw [List.map_map]
    conv => lhs; rw [← List.map_id ys]
    apply List.map_congr_left
    intro k hk
    obtain ⟨x, _, rfl⟩ := all k hk
    rfl
  refine ⟨ys.map f, ?_, ?_, fun x => ?_⟩
  · conv => lhs; rw [ey]
    rw [List.map_map] <;> rfl
  · refine ascT_of ?_ ?_
    · refine List.pairwise_map.mpr (so.imp_of_mem fun {a b} ha hb q => ?_)
      obtain ⟨x, _, rfl⟩ := all a ha
      obtain ⟨y, _, rfl⟩ := all b hb
      exact (lexS_str x y).mp q
    · have nd : ys.Nodup := p.nodup_iff.mpr (List.Pairwise.map _ (fun a b h e => h (Sum.inr.inj e)) hn)
      rw [ey] at nd
      exact List.Pairwise.of_map _ (fun a b h e => h (by rw [e])) nd
  · constructor
    · intro hx
      obtain ⟨k, hk, rfl⟩ := List.mem_map.mp hx
      obtain ⟨y, hy, rfl⟩ := all k hk
      exact hy
    · intro hx
      exact List.mem_map.mpr ⟨Sum.inr x, p.mem_iff.mpr (List.mem_map.mpr ⟨x, hx, rfl⟩), rfl⟩
end DL

set_option Elab.async false
set_option linter.all false
set_option maxRecDepth 100000
namespace DL
open PySem PySem.Spec PyProof.Rows L2
/-! ### the law's ledger -/
def rwD (T : Tr) (d : Str → Str → Int) (b : Int) (x : Str) : D := .tup [.int (cV T d b x), .int (hV T d b x)]
def sp_law_ledger : SpT := fun ds e q => ∃ T d b, ds = [treeD T, .int b] ∧ LTree T d ∧ (Heavy T b → q .non) ∧ (¬ Heavy T b → q (.tup [.lst (sortD ((cutL T d b).map pairS)), .lst (T.names.map (rowL T d b))]))
/-! _law_ledger: tree 0, bound 1, root 2, ways 3, rows 4, gone 5, size 6, name 7, weight 8, away 9, many 10, held 11, turn 12, most 13, other 14, length 15, rest 16 -/
def N_law_ledger : List Str := ["tree", "bound", "root", "ways", "rows", "gone", "size", "name", "weight", "away", "many", "held", "turn", "most", "other", "length", "rest"]
def t_law_ledger_1 : ST := (sAsg (eTup (iCons (eVar 10) (iCons (eVar 11) aNil))) (tSub 4 (eVar 7)))
def t_law_ledger_2 : ST := (sSeq (sSet 9 (eLc (itSeq (eCall sp_law_nearB (aCons (eVar 0) (aCons (eVar 7) aNil)))) [14, 15] (tTup (fits 2 (tsCons (tName 14) (tsCons (tName 15) tsNil)))) (bCmp fGt (eCB fLen (aCons (eOp fIx (eVar 3) (eVar 14)) aNil)) (eVar 6)) (eVar 14)))
  (sSeq (sFrz 9 (sSet 10 (eCB fSum (aCons (eLc (itSeq (eVar 9)) [14] (tName 14) bYes (eOp fIx (eOp fIx (eVar 4) (eVar 14)) (eC (.int 0)))) aNil))))
  (sSeq (sSet 11 (eOp fAdd (eVar 8) (eCB fSum (aCons (eLc (itSeq (eVar 9)) [14] (tName 14) bYes (eOp fIx (eOp fIx (eVar 4) (eVar 14)) (eC (.int 1)))) aNil))))
  (sSeq (sForget [2, 8, 12, 13, 14] (sFor (itR1 (aCons (eCB fLen (aCons (eVar 9) aNil)) aNil)) (tName 12) (sIf (bCmp fGt (eVar 11) (eVar 1)) (sSeq (sFrz 9 (sSet 13 (eCB (fBest gtP) (aCons (eLc (itSeq (eVar 9)) [14] (tName 14) bYes (eOp fIx (eOp fIx (eVar 4) (eVar 14)) (eC (.int 1)))) aNil))))
  (sSeq (sSet 14 (eOp fIx (eLc (itSeq (eVar 9)) [14] (tName 14) (bCmp fEq (eOp fIx (eOp fIx (eVar 4) (eVar 14)) (eC (.int 1))) (eVar 13)) (eVar 14)) (eC (.int 0))))
  (sSeq (sSet 9 (eLc (itSeq (eVar 9)) [16] (tName 16) (bCmp fNe (eVar 16) (eVar 14)) (eVar 16)))
  (sSeq (sSet 11 (eOp fSub (eVar 11) (eVar 13)))
  (sSeq (sSet 10 (eOp fAdd (eVar 10) (eC (.int 1))))
  (sApp 5 (eTup (iCons (eCB fMinX (aCons (eVar 7) (aCons (eVar 14) aNil))) (iCons (eCB fMaxX (aCons (eVar 7) (aCons (eVar 14) aNil))) aNil))))))))) sNext) [2, 8, 12, 13, 14]))
  t_law_ledger_1))))
def t_law_ledger_3 : ST := (sRet (eTupF (iConsF (eCB fSorted (aCons (eVar 5) aNil)) (iConsF (eLc (itSeq (eCB fSortDc (aCons (eVar 4) aNil))) [7] (tName 7) bYes (eOp fAdd (eTup (iCons (eVar 7) aNil)) (eOp fIx (eVar 4) (eVar 7)))) aNil))))
def t_law_ledger : ST := (sSeq (sSet 2 (eOp fIx (eCall sp_law_names (aCons (eVar 0) aNil)) (eC (.int 0))))
  (sSeq (sSet 3 (eCallL sp_law_ways (aCons (eVar 0) (aCons (eVar 2) aNil))))
  (sSeq (sSet 4 eDicN)
  (sSeq (sSet 5 (eLst aNil))
  (sSeq (sForget [2, 6, 7, 8, 9, 10, 11, 12, 13, 14] (sFor (itR3 (aCons (eCB fLen (aCons (eOp fIx (eVar 0) (eC (.int 0))) aNil)) (aCons (eC (.int 0)) (aCons (eNeg (eC (.int 1))) aNil)))) (tName 6) (sForget [2, 7, 8, 9, 10, 11, 12, 13, 14] (sFor (itSeq (eCall sp_law_names (aCons (eVar 0) aNil))) (tName 7) (sIf (bCmp fEq (eCB fLen (aCons (eOp fIx (eVar 3) (eVar 7)) aNil)) (eVar 6)) (sSeq (sSet 8 (eOp fIx (eCB fDict (aCons (eOp fIx (eVar 0) (eC (.int 0))) aNil)) (eVar 7)))
  (sSeq (sIf (bCmp fGt (eVar 8) (eVar 1)) (sRet (eC .non)) sNext)
  t_law_ledger_2)) sNext) [2, 7, 8, 9, 10, 11, 12, 13, 14])) [2, 6, 7, 8, 9, 10, 11, 12, 13, 14]))
  t_law_ledger_3)))))
theorem len_law_ledger : ∀ ds e q, sp_law_ledger ds e q → ds.length = ["tree", "bound"].length := by
  rintro _ e q ⟨T, d, b, rfl, _⟩
  rfl
theorem ne60 {s t : Str} {q : Bool → Prop} (h : q (!decide (s = t))) : fNe (.str s) (.str t) q := h
section
variable {T : Tr} {d : Str → Str → Int} {b : Int} {x : Str}
theorem ledger_2 (L : LTree T d) {ks : List Str} {wy : Str → List Str} (hk : ∀ x, x ∈ ks ↔ x ∈ T.names) (hw : ∀ x ∈ T.names, WayOk T d (rootT T) x (wy x)) (hx : x ∈ T.names) {done : List Str} (dl : done.length ≤ 1000) (xd : x ∉ done)
    (kd : ∀ y ∈ kidsT T d (rootT T) x, y ∈ done) (le : lv T.nodes x ≤ b) {gl : List D} (gn : gl.length ≤ 1000) {x2 : Sl} {E : En}
    (hnx : ∀ x2 x7 x8 x9 x10 x11 x12 x13 x14, E.nx [.sh (treeD T), .sh (.int b), x2, .sh (.dic (waysK ks wy)), .ow (.dic (kmap (done ++ [x]) (rwD T d b))), .ow (.lst (gl ++ (goneP T d b x).map pairS)), .sh (.int (wy x).length), x7, x8, x9, x10, x11, x12, x13, x14, .un, .un]) :
    t_law_ledger_2 E [.sh (treeD T), .sh (.int b), x2, .sh (.dic (waysK ks wy)), .ow (.dic (kmap done (rwD T d b))), .ow (.lst gl), .sh (.int (wy x).length), .sh (.str x), .sh (.int (lv T.nodes x)), .un, .un, .un, .un, .un, .un, .un, .un] := by
  have M := L.met
  obtain ⟨hs, r0⟩ := root_at L
  have nl : (T.near x).length ≤ 1000 := by
    rw [(near_perm x).length_eq]
    exact L.small.adj x
  have kl := kids_len L (rootT T) x
  have inD : ∀ y ∈ kidsT T d (rootT T) x, y ∈ T.names := fun y hy => by
    obtain ⟨l, hl⟩ := mem_kids.mp hy
    exact (away_mem M hl).2.1
  refine ⟨T, x, rfl, L.small, L.met.loopless, ⟨⟨trivial, trivial, trivial⟩, by rw [List.length_map]; exact line1000 nl⟩, ?_⟩
  show lcR _ _ _ _ [.sh (treeD T), .sh (.int b), x2, .sh (.dic (waysK ks wy)), .ow (.dic (kmap done (rwD T d b))), .ow (.lst gl), .sh (.int (wy x).length), .sh (.str x), .sh (.int (lv T.nodes x)), .un, .un, .un, .un, .un, .un, .un, .un] ((T.near x).map nodeD) _
  refine lcR_flt nodeD (fun p => decide ((wy x).length < (wy p.1).length)) (fun p => .str p.1) _ (fun p hp A B g1 g2 => ?_) _ ?_
  · have hp' := M.mem ((near_perm x).mem_iff.mp (show (p.1, p.2) ∈ T.near x from hp))
    refine ⟨rfl, strsD (wy p.1), ways_look ((hk p.1).mpr hp'.2.1), ?_⟩
    show if decide ((((wy p.1).map D.str).length : Int) > ((wy x).length : Int)) = true then A (.str p.1) else B
    rw [List.length_map]
    refine ite2D (fun c => g1 (decide_eq_true (by have := of_decide_eq_true c; omega))) fun c => g2 (decide_eq_false (by have := of_decide_eq_false c; omega))
  have ek : ((T.near x).filter fun p => decide ((wy x).length < (wy p.1).length)).map (fun p => D.str p.1) = (kidsT T d (rootT T) x).map D.str := by
    rw [way_more M hs hw]
    unfold kidsT
    rw [List.map_map]
    rfl
  rw [ek]
  show slot _ _ 9 .nw (strsD (kidsT T d (rootT T) x))
  refine ⟨⟨⟨trivial, trivial⟩, by rw [List.length_map]; exact line1000 kl⟩, ?_⟩
  show lcR _ _ _ _ [.sh (treeD T), .sh (.int b), x2, .sh (.dic (waysK ks wy)), .ow (.dic (kmap done (rwD T d b))), .ow (.lst gl), .sh (.int (wy x).length), .sh (.str x), .sh (.int (lv T.nodes x)), .sh (strsD (kidsT T d (rootT T) x)), .un, .un, .un, .un, .un, .un, .un] ((kidsT T d (rootT T) x).map D.str) _
  refine lcR_all D.str (fun y => .int (cV T d b y)) _ (fun y hy A hA => ⟨rwD T d b y, kmap_look (kd y hy), .int (cV T d b y), rfl, hA⟩) _ ?_
  refine ⟨_, allI_mapN (cV T d b) _, ?_⟩
  refine ⟨⟨⟨trivial, trivial⟩, by rw [List.length_map]; exact line1000 kl⟩, ?_⟩
  show lcR _ _ _ _ [.sh (treeD T), .sh (.int b), x2, .sh (.dic (waysK ks wy)), .ow (.dic (kmap done (rwD T d b))), .ow (.lst gl), .sh (.int (wy x).length), .sh (.str x), .sh (.int (lv T.nodes x)), .sh (strsD (kidsT T d (rootT T) x)), .sh (.int ((kidsT T d (rootT T) x).map (cV T d b)).sum), .un, .un, .un, .un, .un, .un] ((kidsT T d (rootT T) x).map D.str) _
  refine lcR_all D.str (fun y => .int (hV T d b y)) _ (fun y hy A hA => ⟨rwD T d b y, kmap_look (kd y hy), .int (hV T d b y), rfl, hA⟩) _ ?_
  refine ⟨_, allI_mapN (hV T d b) _, ?_⟩
  rw [sumM_eq, sumM_eq]
  have eV := row_eq (b := b) L hx
  obtain ⟨KL, hKL⟩ : ∃ n : Nat, (kidsT T d (rootT T) x).length = n := ⟨_, rfl⟩
  have lm : ((kidsT T d (rootT T) x).map D.str).length = KL := by rw [List.length_map, hKL]
  rw [hKL] at kl
  show (-(2 ^ 62) ≤ (((kidsT T d (rootT T) x).map D.str).length : Int) ∧ (((kidsT T d (rootT T) x).map D.str).length : Int) < 2 ^ 62) ∧ forR _ _ _ _ _ (rangeD 0 ((((kidsT T d (rootT T) x).map D.str).length : Int)).toNat) _
  rw [lm, Int.toNat_natCast]
  refine ⟨⟨by omega, by omega⟩, ?_⟩
  refine forR_upto (fun i δ => ∃ (R g : List Str) (h : Int) (s9 : Sl), R.Pairwise (fun x y => x.cps.toList < y.cps.toList) ∧ (∀ y ∈ R, y ∈ kidsT T d (rootT T) x) ∧
    (g ++ (cutP b (hV T d b) h (sortK (negH T d b) R)).1, (cutP b (hV T d b) h (sortK (negH T d b) R)).2) = cutP b (hV T d b) (lv T.nodes x + sumM (hV T d b) (kidsT T d (rootT T) x)) (ordV T d b x) ∧ (R.length + i ≤ KL ∨ h ≤ b) ∧ (g.length + R.length ≤ KL) ∧ (s9 = .sh (strsD R) ∨ s9 = .ow (strsD R)) ∧
    δ = [.sh (treeD T), .sh (.int b), .un, .sh (.dic (waysK ks wy)), .ow (.dic (kmap done (rwD T d b))), .ow (.lst (gl ++ g.map fun y => pairS (minT x y, maxT x y))), .sh (.int (wy x).length), .sh (.str x), .un, s9, .sh (.int (sumM (cV T d b) (kidsT T d (rootT T) x) + g.length)), .sh (.int h), .un, .un, .un, .un, .un]) ?_ ?_ _ ?_
  · rintro δ ⟨R, g, h, s9, _, hR, e1, hi, gl2, h9, rfl⟩
    have e2 : cutP b (hV T d b) h (sortK (negH T d b) R) = ([], h) := by
      rcases hi with hi | hi
      · have : R = [] := List.length_eq_zero_iff.mp (by omega)
        rw [this]
        simp [sortK, cutP]
      · exact cutP_le hi _
    rw [e2] at e1
    have e1 : (g ++ [], h) = _ := e1
    rw [List.append_nil] at e1
    rw [← e1] at eV
    have ec : cV T d b x = sumM (cV T d b) (kidsT T d (rootT T) x) + g.length := by
      unfold cV
      rw [eV]
      show (g.length : Int) + _ = _
      unfold cV
      omega
    have eh : hV T d b x = h := by unfold hV; rw [eV]
    have eg : goneP T d b x = g.map fun y => (minT x y, maxT x y) := by unfold goneP; rw [eV]
    show t_law_ledger_1 E [.sh (treeD T), .sh (.int b), .un, .sh (.dic (waysK ks wy)), .ow (.dic (kmap done (rwD T d b))), .ow (.lst (gl ++ g.map fun y => pairS (minT x y, maxT x y))), .sh (.int (wy x).length), .sh (.str x), .un, s9, .sh (.int (sumM (cV T d b) (kidsT T d (rootT T) x) + g.length)), .sh (.int h), .un, .un, .un, .un, .un]
    rw [← ec, ← eh]
    have ep := kmap_put (f := rwD T d b) xd (show rwD T d b x = _ from rfl)
    have eg2 : (g.map fun y => pairS (minT x y, maxT x y)) = (goneP T d b x).map pairS := by
      rw [eg, List.map_map]
      rfl
    rw [eg2]
    refine ⟨(show 2 ≤ sizeLine by decide), (fun z => nomatch z), ?_⟩
    refine ⟨by unfold kmap; rw [List.length_map]; exact lt1000 dl, ?_⟩
    have := hnx .un (.sh (.str x)) .un s9 (.sh (.int (cV T d b x))) (.sh (.int (hV T d b x))) .un .un .un
    rw [← ep] at this
    exact this
  · rintro i δ nx hi ⟨R, g, h, s9, asc, hR, e1, hb, gl2, h9, rfl⟩ hnx2
    show sIf (bCmp fGt (eVar 11) (eVar 1)) _ _ _ [.sh (treeD T), .sh (.int b), .un, .sh (.dic (waysK ks wy)), .ow (.dic (kmap done (rwD T d b))), .ow (.lst (gl ++ g.map fun y => pairS (minT x y, maxT x y))), .sh (.int (wy x).length), .sh (.str x), .un, s9, .sh (.int (sumM (cV T d b) (kidsT T d (rootT T) x) + g.length)), .sh (.int h), .sh (.int (i : Int)), .un, .un, .un, .un]
    refine ite2D (fun c => ?_) fun c => ?_
    · have c : b < h := of_decide_eq_true c
      have Rn : R ≠ [] := fun z => by
        subst z
        have e2 : cutP b (hV T d b) h (sortK (negH T d b) []) = ([], h) := by simp [sortK, cutP]
        rw [e2] at e1
        have e1 : (g ++ [], h) = _ := e1
        rw [← e1] at eV
        have := heldV_le (b := b) L hs hx le
        rw [eV] at this
        have : h ≤ b := this
        omega
      obtain ⟨o, r, eo⟩ := sortK_ne (k := negH T d b) Rn
      obtain ⟨oR, om⟩ := sortK_hd eo
      have et := sortK_tail (asc.imp fun {a b} z => fun y => by rw [y] at z; exact List.lt_irrefl _ z) eo
      have ep := pick_hd (f := hV T d b) asc eo
      have Rl : R.length ≤ KL := by omega
      have fl2 : (R.filter fun y => decide (y ≠ o)).length + 1 = R.length := by
        have h1 := (sortK_perm (negH T d b) R).length_eq
        have h2 := (sortK_perm (negH T d b) (R.filter fun y => decide (y ≠ o))).length_eq
        have et : sortK (negH T d b) (R.filter fun y => decide (y ≠ o)) = r := et
        rw [eo, List.length_cons] at h1
        rw [et] at h2
        omega
      have rl : (R.map D.str).length ≤ sizeLine := by rw [List.length_map]; exact line1000 (by omega)
      have gl3 : (gl ++ g.map fun y => pairS (minT x y, maxT x y)).length ≤ 100000 := by rw [List.length_append, List.length_map]; omega
      have step : ∀ (e : XQ) (q : Tg → D → Prop), q .fz (.int (hV T d b o)) → (eCB (fBest gtP) (aCons (eLc (itSeq (eVar 9)) [14] (tName 14) bYes (eOp fIx (eOp fIx (eVar 4) (eVar 14)) (eC (.int 1)))) aNil)) e [.sh (treeD T), .sh (.int b), .un, .sh (.dic (waysK ks wy)), .ow (.dic (kmap done (rwD T d b))), .ow (.lst (gl ++ g.map fun y => pairS (minT x y, maxT x y))), .sh (.int (wy x).length), .sh (.str x), .un, .sh (strsD R), .sh (.int (sumM (cV T d b) (kidsT T d (rootT T) x) + g.length)), .sh (.int h), .sh (.int (i : Int)), .un, .un, .un, .un] q := fun e q h0 => by
        refine ⟨⟨⟨trivial, trivial⟩, rl⟩, ?_⟩
        show lcR _ _ _ _ [.sh (treeD T), .sh (.int b), .un, .sh (.dic (waysK ks wy)), .ow (.dic (kmap done (rwD T d b))), .ow (.lst (gl ++ g.map fun y => pairS (minT x y, maxT x y))), .sh (.int (wy x).length), .sh (.str x), .un, .sh (strsD R), .sh (.int (sumM (cV T d b) (kidsT T d (rootT T) x) + g.length)), .sh (.int h), .sh (.int (i : Int)), .un, .un, .un, .un] (R.map D.str) _
        refine lcR_all D.str (fun y => .int (hV T d b y)) _ (fun y hy A hA => ⟨rwD T d b y, kmap_look (kd y (hR y hy)), .int (hV T d b y), rfl, hA⟩) _ ?_
        have em : (R.map fun y => D.int (hV T d b y)) = (R.map (hV T d b)).map .int := by rw [List.map_map]; rfl
        rw [em]
        refine ⟨bestOk_ints (fun z => Rn (List.map_eq_nil_iff.mp z)), fun v hv => ?_⟩
        obtain ⟨m, rfl, hm, mx⟩ := best_intX hv
        obtain ⟨y, hy, rfl⟩ := List.mem_map.mp hm
        have h1 := mx _ (List.mem_map.mpr ⟨o, oR, rfl⟩)
        have h2 : hV T d b y ≤ hV T d b o := by
          rcases om y hy with z | ⟨z, _⟩
          · unfold negH at z
            omega
          · unfold negH at z
            omega
        rw [show hV T d b y = hV T d b o by omega]
        exact h0
      have rest : ∀ E' : En, E'.nx = (fun δ' => nx (forget [2, 8, 12, 13, 14] δ')) → (sSeq (sSet 14 (eOp fIx (eLc (itSeq (eVar 9)) [14] (tName 14) (bCmp fEq (eOp fIx (eOp fIx (eVar 4) (eVar 14)) (eC (.int 1))) (eVar 13)) (eVar 14)) (eC (.int 0))))
  (sSeq (sSet 9 (eLc (itSeq (eVar 9)) [16] (tName 16) (bCmp fNe (eVar 16) (eVar 14)) (eVar 16)))
  (sSeq (sSet 11 (eOp fSub (eVar 11) (eVar 13)))
  (sSeq (sSet 10 (eOp fAdd (eVar 10) (eC (.int 1))))
  (sApp 5 (eTup (iCons (eCB fMinX (aCons (eVar 7) (aCons (eVar 14) aNil))) (iCons (eCB fMaxX (aCons (eVar 7) (aCons (eVar 14) aNil))) aNil)))))))) E' [.sh (treeD T), .sh (.int b), .un, .sh (.dic (waysK ks wy)), .ow (.dic (kmap done (rwD T d b))), .ow (.lst (gl ++ g.map fun y => pairS (minT x y, maxT x y))), .sh (.int (wy x).length), .sh (.str x), .un, .sh (strsD R), .sh (.int (sumM (cV T d b) (kidsT T d (rootT T) x) + g.length)), .sh (.int h), .sh (.int (i : Int)), .sh (.int (hV T d b o)), .un, .un, .un] := fun E' hE => by
        refine ⟨⟨⟨trivial, trivial⟩, rl⟩, ?_⟩
        show lcR _ _ _ _ [.sh (treeD T), .sh (.int b), .un, .sh (.dic (waysK ks wy)), .ow (.dic (kmap done (rwD T d b))), .ow (.lst (gl ++ g.map fun y => pairS (minT x y, maxT x y))), .sh (.int (wy x).length), .sh (.str x), .un, .sh (strsD R), .sh (.int (sumM (cV T d b) (kidsT T d (rootT T) x) + g.length)), .sh (.int h), .sh (.int (i : Int)), .sh (.int (hV T d b o)), .un, .un, .un] (R.map D.str) _
        refine lcR_flt D.str (fun y => decide (hV T d b y = hV T d b o)) D.str _ (fun y hy A B g1 g2 => ⟨rwD T d b y, kmap_look (kd y (hR y hy)), .int (hV T d b y), rfl, ite2D g1 g2⟩) _ ?_
        refine ⟨.str o, at_map D.str ep, ?_⟩
        refine ⟨⟨⟨trivial, trivial⟩, rl⟩, ?_⟩
        show lcR _ _ _ _ [.sh (treeD T), .sh (.int b), .un, .sh (.dic (waysK ks wy)), .ow (.dic (kmap done (rwD T d b))), .ow (.lst (gl ++ g.map fun y => pairS (minT x y, maxT x y))), .sh (.int (wy x).length), .sh (.str x), .un, .sh (strsD R), .sh (.int (sumM (cV T d b) (kidsT T d (rootT T) x) + g.length)), .sh (.int h), .sh (.int (i : Int)), .sh (.int (hV T d b o)), .sh (.str o), .un, .un] (R.map D.str) _
        refine lcR_flt D.str (fun y => decide (y ≠ o)) D.str _ (fun y hy A B g1 g2 => ?_) _ ?_
        · show if (!decide (y = o)) = true then A (.str y) else B
          refine ite2D (fun c => g1 (decide_eq_true fun z => ?_)) fun c => g2 (decide_eq_false fun z => z ?_)
          · rw [decide_eq_true z] at c
            cases c
          · exact of_decide_eq_true (by simpa using c)
        show sApp 5 (eTup (iCons (eCB fMinX (aCons (eVar 7) (aCons (eVar 14) aNil))) (iCons (eCB fMaxX (aCons (eVar 7) (aCons (eVar 14) aNil))) aNil))) E' [.sh (treeD T), .sh (.int b), .un, .sh (.dic (waysK ks wy)), .ow (.dic (kmap done (rwD T d b))), .ow (.lst (gl ++ g.map fun y => pairS (minT x y, maxT x y))), .sh (.int (wy x).length), .sh (.str x), .un, .ow (strsD (R.filter fun y => decide (y ≠ o))), .sh (.int (sumM (cV T d b) (kidsT T d (rootT T) x) + g.length + 1)), .sh (.int (h - hV T d b o)), .sh (.int (i : Int)), .sh (.int (hV T d b o)), .sh (.str o), .un, .un]
        refine ⟨(show 2 ≤ sizeLine by decide), Nat.lt_of_le_of_lt gl3 (by decide), ?_⟩
        rw [hE]
        refine hnx2 _ ⟨R.filter fun y => decide (y ≠ o), g ++ [o], h - hV T d b o, .ow (strsD (R.filter fun y => decide (y ≠ o))), asc.filter _, fun y hy => hR y (List.mem_filter.mp hy).1, ?_, ?_, ?_, .inr rfl, ?_⟩
        · rw [eo, cutP, if_pos c] at e1
          rw [et, ← e1, List.append_assoc]
          rfl
        · left
          have := fl2
          omega
        · have := fl2
          rw [List.length_append, List.length_singleton]
          omega
        · rw [List.map_append, ← List.append_assoc, List.length_append, List.length_singleton]
          have : ((g.length + 1 : Nat) : Int) = (g.length : Int) + 1 := by omega
          rw [this, ← Int.add_assoc]
          rfl
      rcases h9 with rfl | rfl
      · exact step _ _ (rest _ rfl)
      · exact step _ _ (rest _ rfl)
    · have c : ¬ b < h := of_decide_eq_false c
      refine hnx2 _ ⟨R, g, h, s9, asc, hR, e1, .inr (by omega), gl2, h9, ?_⟩
      rfl
  · refine ⟨kidsT T d (rootT T) x, [], lv T.nodes x + sumM (hV T d b) (kidsT T d (rootT T) x), .sh (strsD (kidsT T d (rootT T) x)), kids_asc M, fun _ z => z, rfl, .inl (by omega), by rw [List.length_nil]; omega, .inl rfl, ?_⟩
    rw [List.map_nil, List.append_nil, List.length_nil]
    show _ = [Sl.sh (treeD T), .sh (.int b), .un, .sh (.dic (waysK ks wy)), .ow (.dic (kmap done (rwD T d b))), .ow (.lst gl), .sh (.int (wy x).length), .sh (.str x), .un, .sh (strsD (kidsT T d (rootT T) x)), .sh (.int (sumM (cV T d b) (kidsT T d (rootT T) x) + 0)), .sh (.int (lv T.nodes x + sumM (hV T d b) (kidsT T d (rootT T) x))), .un, .un, .un, .un, .un]
    rw [Int.add_zero]
    rfl
theorem forR_down {n : Nat} (Inv : Nat → DSt → Prop) {f : Gv} {tg : GT} {tb : ST} {fg : List Nat} {E : En} (h0 : ∀ δ, Inv n δ → E.nx δ)
    (h1 : ∀ i δ (nx : DSt → Prop), i < n → Inv i δ → (∀ δ', Inv (i + 1) δ' → nx δ') → tg f (.int ((n : Int) - (i : Int))) δ fun δ2 => tb { E with nx := fun δ' => nx (forget fg δ'), ct := fun δ' => nx (forget fg δ'), bk := E.nx } δ2) :
    ∀ (δ : DSt), Inv 0 δ → forR f tg tb fg E (downD n) δ := by
  intro δ h
  have e : downD n = (List.range' 0 n).map fun (i : Nat) => D.int ((n : Int) - (i : Int)) := by
    unfold downD
    rw [List.range_eq_range']
  rw [e]
  refine forR_map _ (fun r δ => ∃ i, r = List.range' i (n - i) ∧ i ≤ n ∧ Inv i δ) ?_ ?_ _ δ ⟨0, rfl, Nat.zero_le _, h⟩
  · rintro δ ⟨i, hr, hi, hI⟩
    have : n - i = 0 := by
      cases q : n - i with
      | zero => rfl
      | succ m =>
        rw [q] at hr
        cases hr
    have : i = n := by omega
    subst this
    exact h0 δ hI
  · rintro a r δ nx ⟨i, hr, hi, hI⟩ hnx
    cases q : n - i with
    | zero =>
      rw [q] at hr
      cases hr
    | succ m =>
      rw [q, List.range'_succ] at hr
      cases hr
      refine h1 a δ nx (by omega) hI fun δ' h' => hnx δ' ⟨a + 1, ?_, by omega, h'⟩
      congr 1
      omega
theorem kids12 (L : LTree T d) : (kidsT T d (rootT T) x).length ≤ 12 := by
  have h : ∀ y ∈ kidsT T d (rootT T) x, y ∈ T.names := fun y hy => by
    obtain ⟨l, hl⟩ := mem_kids.mp hy
    exact (away_mem L.met hl).2.1
  have := len_of_sub (kids_nd (s := rootT T) (x := x) L.met) h
  have := L.n12
  omega
theorem gone_len (L : LTree T d) : ∀ l : List Str, (∀ x ∈ l, x ∈ T.names) → (l.flatMap (goneP T d b)).length ≤ l.length * 12
  | [], _ => Nat.le_refl _
  | a :: l, h => by
    have h1 := gone_len L l fun x hx => h x (List.mem_cons_of_mem _ hx)
    have h2 : (goneP T d b a).length ≤ 12 := by
      unfold goneP
      rw [List.length_map]
      exact Nat.le_trans (cut_len L (h a (by simp))) (kids12 L)
    rw [List.flatMap_cons, List.length_append, List.length_cons]
    omega
theorem ledger_3 (L : LTree T d) {q : D → Prop} {e : XQ} {done : List Str} (nd : done.Nodup) (mk : ∀ x, x ∈ done ↔ x ∈ T.names) {x3 : Sl} (hq : q (.tup [.lst (sortD ((cutL T d b).map pairS)), .lst (T.names.map (rowL T d b))])) :
    t_law_ledger_3 { nx := fun _ => q .non, rt := q, xe := fun x _ => e x } [.sh (treeD T), .sh (.int b), .un, x3, .ow (.dic (kmap done (rwD T d b))), .ow (.lst ((done.flatMap (goneP T d b)).map pairS)), .un, .un, .un, .un, .un, .un, .un, .un, .un, .un, .un] := by
  have pm : done.Perm T.names := (List.perm_ext_iff_of_nodup nd L.met.nd).mpr mk
  have e2 : sortD ((done.flatMap (goneP T d b)).map pairS) = sortD ((cutL T d b).map pairS) := sortD_perm2 (srtbP _) ((List.Perm.flatMap_right _ pm).map _)
  have ek : (kmap done (rwD T d b)).map (·.1) = done.map Sum.inr := by
    unfold kmap
    rw [List.map_map]
    rfl
  refine ⟨srtbP _, ?_, ⟨false, fun kd hk => ?_, fun ys p so => ?_⟩⟩
  · rw [sortP_map]
    exact immA_map (fun _ => rfl) _
  · obtain ⟨z, _, rfl⟩ := List.mem_map.mp hk
    rfl
  rw [ek] at p
  obtain ⟨zs, ez, az, mz⟩ := sortK_strsW nd p so
  have hz : zs = T.names := ascT_eq (fun y => (mz y).trans (mk y)) az L.asc
  subst hz
  rw [ez]
  refine ⟨⟨⟨trivial, trivial⟩, by rw [List.length_map]; exact line1000 (Nat.le_trans L.n12 (by decide))⟩, ?_⟩
  show lcR _ _ _ _ [.sh (treeD T), .sh (.int b), .un, x3, .ow (.dic (kmap done (rwD T d b))), .ow (.lst ((done.flatMap (goneP T d b)).map pairS)), .un, .un, .un, .un, .un, .un, .un, .un, .un, .un, .un] (T.names.map D.str) _
  refine lcR_all D.str (rowL T d b) _ (fun x hx A hA => ⟨(show 1 ≤ sizeLine by decide), rwD T d b x, kmap_look ((mk x).mpr hx), ⟨(fun z => nomatch z), (fun z => nomatch z)⟩, (show 1 + 2 ≤ sizeLine by decide), hA⟩) _ ?_
  refine ⟨immA_map (fun _ => rfl) _, (show 2 ≤ sizeLine by decide), ?_⟩
  rw [e2]
  exact ⟨rfl, hq⟩
end
theorem lv_get {T : Tr} {d : Str → Str → Int} (M : Met T d) {x : Str} (hx : x ∈ T.names) : ∃ m, pairsD (T.nodes.map nodeD) = some m ∧ lookD (mergeD [] m) (.inr x) = some (.int (lv T.nodes x)) := by
  obtain ⟨w, hw⟩ := node_of hx
  refine ⟨_, pairsD_map _, ?_⟩
  have := mergeD_map T.nodes [] M.nd
  rw [show mergeD [] (T.nodes.map fun p => ((.inr p.1 : Key), D.int p.2)) = T.nodes.map fun p => ((.inr p.1 : Key), D.int p.2) from this, lv_node M hw]
  exact lookD_map M.nd hw
theorem m_law_ledger : ∀ ds e q, sp_law_ledger ds e q → t_law_ledger { nx := fun _ => q .non, rt := q, xe := fun x _ => e x } (startD N_law_ledger ds) := by
  rintro _ e q ⟨T, d, b, rfl, L, hN, hQ⟩
  have M := L.met
  obtain ⟨hs, r0⟩ := root_at L
  have nn : T.nodes.length = T.names.length := by rw [Tr.names, List.length_map]
  have n12 := L.n12
  refine ⟨T, rfl, L.small, .str (rootT T), r0, treeA_args T _, T, d, rootT T, rfl, M, L.small, hs, fun ks wy _ hk hw => ?_⟩
  refine ⟨Nat.zero_le _, .tup (T.nodes.map nodeD), rfl, ?_⟩
  have lN : ((T.nodes.map nodeD).length : Int) = (T.names.length : Int) := by rw [List.length_map, nn]
  show ((-1 : Int) = -1 ∧ (0 : Int) = 0 ∧ 0 ≤ ((T.nodes.map nodeD).length : Int) ∧ ((T.nodes.map nodeD).length : Int) ≤ 1000) ∧ forR _ _ _ _ _ (downD (((T.nodes.map nodeD).length : Int)).toNat) _
  rw [lN, Int.toNat_natCast]
  refine ⟨⟨rfl, rfl, by omega, by omega⟩, ?_⟩
  refine forR_down (fun i δ => ∃ done, done.Nodup ∧ (∀ x, x ∈ done ↔ x ∈ T.names ∧ T.names.length < (wy x).length + i) ∧ (∀ x ∈ done, lv T.nodes x ≤ b) ∧
    δ = [.sh (treeD T), .sh (.int b), .un, .sh (.dic (waysK ks wy)), .ow (.dic (kmap done (rwD T d b))), .ow (.lst ((done.flatMap (goneP T d b)).map pairS)), .un, .un, .un, .un, .un, .un, .un, .un, .un, .un, .un]) ?_ ?_ _ ?_
  · rintro δ ⟨done, nd, mk, hb, rfl⟩
    have mk2 : ∀ x, x ∈ done ↔ x ∈ T.names := fun x => (mk x).trans ⟨fun z => z.1, fun z => ⟨z, by
      have := (List.getElem?_eq_some_iff.mp (hw x z).hd).1
      omega⟩⟩
    refine ledger_3 L nd mk2 (hQ ?_)
    rintro ⟨x, hx, lt⟩
    have := hb x ((mk2 x).mpr hx)
    omega
  · rintro i δ nx hi ⟨done, nd, mk, hb, rfl⟩ hnx
    refine ⟨T, rfl, L.small, ?_⟩
    show forR _ _ _ _ _ (T.names.map D.str) [.sh (treeD T), .sh (.int b), .un, .sh (.dic (waysK ks wy)), .ow (.dic (kmap done (rwD T d b))), .ow (.lst ((done.flatMap (goneP T d b)).map pairS)), .sh (.int ((T.names.length : Int) - (i : Int))), .un, .un, .un, .un, .un, .un, .un, .un, .un, .un]
    refine forR_map D.str (fun r δ => ∃ done, (∃ pre, pre ++ r = T.names ∧ ∀ x, x ∈ done ↔ x ∈ T.names ∧ (T.names.length < (wy x).length + i ∨ (wy x).length + i = T.names.length ∧ x ∈ pre)) ∧ done.Nodup ∧ (∀ x ∈ done, lv T.nodes x ≤ b) ∧
      δ = [.sh (treeD T), .sh (.int b), .un, .sh (.dic (waysK ks wy)), .ow (.dic (kmap done (rwD T d b))), .ow (.lst ((done.flatMap (goneP T d b)).map pairS)), .sh (.int ((T.names.length : Int) - (i : Int))), .un, .un, .un, .un, .un, .un, .un, .un, .un, .un]) ?_ ?_ _ _ ⟨done, ⟨[], rfl, fun x => (mk x).trans ⟨fun z => ⟨z.1, .inl z.2⟩, fun z => ⟨z.1, z.2.resolve_right fun y => nomatch y.2⟩⟩⟩, nd, hb, rfl⟩
    · rintro δ ⟨done, ⟨pre, e1, mk⟩, nd, hb, rfl⟩
      rw [List.append_nil] at e1
      subst e1
      refine hnx _ ⟨done, nd, fun x => (mk x).trans ⟨fun z => ⟨z.1, by omega⟩, fun z => ⟨z.1, ?_⟩⟩, hb, rfl⟩
      by_cases c : (wy x).length + i = T.names.length
      · exact .inr ⟨c, z.1⟩
      · left
        have := z.2
        omega
    · rintro x r δ nx2 ⟨done, ⟨pre, e1, mk⟩, nd, hb, rfl⟩ hnx2
      have hx : x ∈ T.names := by rw [← e1]; simp
      have lW : (((wy x).map D.str).length : Int) = ((wy x).length : Int) := by rw [List.length_map]
      refine ⟨strsD (wy x), ways_look ((hk x).mpr hx), ?_⟩
      show if decide ((((wy x).map D.str).length : Int) = (T.names.length : Int) - (i : Int)) = true then _ else _
      rw [lW]
      refine ite2D (fun c => ?_) fun c => ?_
      · have c : ((wy x).length : Int) = (T.names.length : Int) - (i : Int) := of_decide_eq_true c
        obtain ⟨m, em, gm⟩ := lv_get M hx
        refine ⟨.tup (T.nodes.map nodeD), rfl, m, em, .int (lv T.nodes x), gm, ?_⟩
        refine ite2D (fun c2 => ?_) fun c2 => ?_
        · exact ⟨rfl, hN ⟨x, hx, of_decide_eq_true c2⟩⟩
        · have c2 : ¬ b < lv T.nodes x := of_decide_eq_false c2
          have ds : ∀ z ∈ done, z ∈ T.names := fun z hz => ((mk z).mp hz).1
          have dl := len_of_sub nd ds
          have xd : x ∉ done := fun z => by
            rcases ((mk x).mp z).2 with z | ⟨_, z⟩
            · omega
            · have nd2 := M.nd
              rw [← e1] at nd2
              exact (List.nodup_append.mp nd2).2.2 x z x (by simp) rfl
          have kd : ∀ y ∈ kidsT T d (rootT T) x, y ∈ done := fun y hy => by
            obtain ⟨l, hl⟩ := mem_kids.mp hy
            have := way_kid M hs hw hl
            exact (mk y).mpr ⟨(away_mem M hl).2.1, .inl (by omega)⟩
          rw [← c]
          have gn : ((done.flatMap (goneP T d b)).map pairS).length ≤ 1000 := by
            rw [List.length_map]
            have := gone_len (b := b) L done ds
            omega
          refine ledger_2 L hk hw hx (by omega) xd kd (by omega) gn fun x2 x7 x8 x9 x10 x11 x12 x13 x14 => ?_
          rw [c]
          have e3 : ((done.flatMap (goneP T d b)).map pairS) ++ (goneP T d b x).map pairS = ((done ++ [x]).flatMap (goneP T d b)).map pairS := by
            rw [List.flatMap_append, List.map_append]
            simp
          rw [e3]
          refine hnx2 _ ⟨done ++ [x], ⟨pre ++ [x], by rw [List.append_assoc]; exact e1, fun z => ⟨fun y => ?_, fun y => ?_⟩⟩, ?_, fun z hz => ?_, rfl⟩
          · rcases List.mem_append.mp y with y | y
            · have := (mk z).mp y
              exact ⟨this.1, this.2.imp id fun y => ⟨y.1, List.mem_append_left _ y.2⟩⟩
            · rw [List.mem_singleton.mp y]
              exact ⟨hx, .inr ⟨by omega, by simp⟩⟩
          · rcases y with ⟨y0, y | ⟨y1, y2⟩⟩
            · exact List.mem_append_left _ ((mk z).mpr ⟨y0, .inl y⟩)
            · rcases List.mem_append.mp y2 with y2 | y2
              · exact List.mem_append_left _ ((mk z).mpr ⟨y0, .inr ⟨y1, y2⟩⟩)
              · exact List.mem_append_right _ y2
          · refine List.nodup_append.mpr ⟨nd, by simp, fun a ha c hc => ?_⟩
            rw [List.mem_singleton.mp hc]
            exact fun z => xd (z ▸ ha)
          · rcases List.mem_append.mp hz with hz | hz
            · exact hb z hz
            · rw [List.mem_singleton.mp hz]
              omega
      · have c : ¬ ((wy x).length : Int) = (T.names.length : Int) - (i : Int) := of_decide_eq_false c
        refine hnx2 _ ⟨done, ⟨pre ++ [x], by rw [List.append_assoc]; exact e1, fun z => (mk z).trans ⟨fun y => ⟨y.1, y.2.imp id fun y => ⟨y.1, List.mem_append_left _ y.2⟩⟩, fun y => ⟨y.1, y.2.imp id fun y => ⟨y.1, ?_⟩⟩⟩⟩, nd, hb, rfl⟩
        rcases List.mem_append.mp y.2 with y2 | y2
        · exact y2
        · rw [List.mem_singleton.mp y2] at y
          omega
  · refine ⟨[], List.nodup_nil, fun x => ⟨(fun z => nomatch z), fun z => ?_⟩, fun _ z => (nomatch z), rfl⟩
    have := (hw x z.1).path.len
    omega
end DL

set_option Elab.async false
set_option linter.all false
set_option maxRecDepth 100000
namespace DL
open PySem PySem.Spec PyProof.Rows L2
/-! ### bounds -/
def sp_law_bound : SpT := fun ds e q => ∃ ns k T d, ds = [intsD ns, .int k, treeD T] ∧ 0 ≤ k ∧ LTree T d ∧ ∀ b : Int, q (.int b)
/-! _law_bound: script 0, k 1, tree 2, digits 3, whole 4, greatest 5, name 6, weight 7 -/
def N_law_bound : List Str := ["script", "k", "tree", "digits", "whole", "greatest", "name", "weight"]
def t_law_bound : ST := (sSeq (sSet 3 (eCall sp_law_drawB (aCons (eVar 0) (aCons (eVar 1) (aCons (eLst (iCons (eC (.int 8)) (iCons (eC (.int 40)) (iCons (eC (.int 200)) aNil)))) aNil)))))
  (sSeq (sSet 4 (eCB fSum (aCons (eLc (itSeq (eOp fIx (eVar 2) (eC (.int 0)))) [6, 7] (tTup (fits 2 (tsCons (tName 6) (tsCons (tName 7) tsNil)))) bYes (eVar 7)) aNil)))
  (sSeq (sSet 5 (eCB (fBest gtP) (aCons (eLc (itSeq (eOp fIx (eVar 2) (eC (.int 0)))) [6, 7] (tTup (fits 2 (tsCons (tName 6) (tsCons (tName 7) tsNil)))) bYes (eVar 7)) aNil)))
  (sRet (eOp fIx (eLst (iCons (eVar 5) (iCons (eOp fAdd (eVar 5) (eOp fIx (eVar 3) (eC (.int 1)))) (iCons (eCB fMaxX (aCons (eC (.int 0)) (aCons (eOp fSub (eVar 5) (eC (.int 1))) aNil))) (iCons (eVar 4) (iCons (eOp (fI CDiv (· / ·)) (eVar 4) (eC (.int 2))) (iCons (eOp fIx (eVar 3) (eC (.int 2))) (iCons (eOp fAdd (eVar 5) (eOp fIx (eVar 3) (eC (.int 2)))) (iCons (eOp fAdd (eVar 5) (eOp (fI CDiv (· / ·)) (eVar 4) (eC (.int 3)))) aNil))))))))) (eOp fIx (eVar 3) (eC (.int 0))))))))
theorem len_law_bound : ∀ ds e q, sp_law_bound ds e q → ds.length = ["script", "k", "tree"].length := by
  rintro _ e q ⟨ns, k, T, d, rfl, _⟩
  rfl
theorem min_two (x y : Str) : minT x y = x ∨ minT x y = y := by unfold minT; split <;> simp
theorem max_two (x y : Str) : maxT x y = x ∨ maxT x y = y := by unfold maxT; split <;> simp
theorem pick8 {a : Int} {l : List D} {q : D → Prop} (h0 : 0 ≤ a) (h1 : a < l.length) (h : ∀ d ∈ l, q d) : ∃ d, atI l a = some d ∧ q d := by
  obtain ⟨n, rfl⟩ : ∃ n : Nat, a = (n : Int) := ⟨a.toNat, by omega⟩
  have hn : n < l.length := by omega
  refine ⟨l[n], ?_, h _ (List.getElem_mem hn)⟩
  have := at_map (id : D → D) (l := l) (i := n) (List.getElem?_eq_getElem hn)
  rw [List.map_id] at this
  exact this
theorem m_law_bound : ∀ ds e q, sp_law_bound ds e q → t_law_bound { nx := fun _ => q .non, rt := q, xe := fun x _ => e x } (startD N_law_bound ds) := by
  rintro _ e q ⟨ns, k, T, d, rfl, hk, L, h⟩
  have wt : ∀ l : List (Str × Int), l.map (fun p => D.int p.2) = (l.map (·.2)).map .int := fun l => by rw [List.map_map]; rfl
  refine ⟨(show 3 ≤ sizeLine by decide), ns, k, [8, 40, 200], rfl, hk, by decide, by decide +kernel, fun dg hb => ?_⟩
  obtain ⟨a0, e0, b0, b0'⟩ := hb.get (j := 0) rfl
  obtain ⟨a1, e1, b1, b1'⟩ := hb.get (j := 1) rfl
  obtain ⟨a2, e2, b2, b2'⟩ := hb.get (j := 2) rfl
  have at0 : atI (dg.map D.int) 0 = some (.int a0) := atI_int (j := 0) e0
  have at1 : atI (dg.map D.int) 1 = some (.int a1) := atI_int (j := 1) e1
  have at2 : atI (dg.map D.int) 2 = some (.int a2) := atI_int (j := 2) e2
  refine ⟨.tup (T.nodes.map nodeD), rfl, ⟨⟨trivial, trivial, trivial⟩, by rw [List.length_map]; exact line1000 L.small.1⟩, ?_⟩
  refine lcR_all nodeD (fun p => .int p.2) _ (fun p hp A hA => ⟨rfl, hA⟩) _ ?_
  refine ⟨_, allI_mapN (fun p : Str × Int => p.2) _, ?_⟩
  refine ⟨.tup (T.nodes.map nodeD), rfl, ⟨⟨trivial, trivial, trivial⟩, by rw [List.length_map]; exact line1000 L.small.1⟩, ?_⟩
  refine lcR_all nodeD (fun p => .int p.2) _ (fun p hp A hA => ⟨rfl, hA⟩) _ ?_
  rw [wt]
  refine ⟨bestOk_ints (fun z => by
    have := L.len
    have := congrArg List.length z
    rw [List.length_map, List.length_nil] at this
    omega), fun v hv => ?_⟩
  obtain ⟨g, rfl, _⟩ := best_intX hv
  refine ⟨.int a1, at1, ⟨by decide, by decide⟩, .int a2, at2, .int a2, at2, ⟨by decide, by decide⟩, (show 8 ≤ sizeLine by decide), .int a0, at0, ?_⟩
  refine pick8 b0 b0' fun v hv => ?_
  have : ∃ i : Int, v = .int i := by
    simp only [List.mem_cons, List.not_mem_nil, or_false] at hv
    rcases hv with z | z | z | z | z | z | z | z <;> exact ⟨_, z⟩
  obtain ⟨i, rfl⟩ := this
  exact ⟨rfl, h i⟩
end DL

set_option Elab.async false
set_option linter.all false
set_option maxRecDepth 100000
namespace DL
open PySem PySem.Spec PyProof.Rows L2
/-! ### is_right, law -/
def ledD (T : Tr) (d : Str → Str → Int) (b : Int) : D := .lst (T.names.map (rowL T d b))
def sp_is_right : SpT := fun ds e q => ∃ T d b X, ds = [treeD T, .int b, X] ∧ LTree T d ∧ (D.ok X = true ∧ X.dep ≤ 64 ∧ X ≠ .non) ∧ (Heavy T b → q (.bl false)) ∧ (¬ Heavy T b → X = ledD T d b → q (.bl true)) ∧ (¬ Heavy T b → X ≠ ledD T d b → q (.bl false))
def sp_law : SpT := fun ds e q => ∃ ns, ds = [intsD ns] ∧ ns.length ≤ 63 ∧ q (.bl true)
/-! is_right: some_tree 0, bound 1, rows 2 -/
def N_is_right : List Str := ["some_tree", "bound", "rows"]
def t_is_right : ST := (sRet (eCmp fEq (eVar 2) (eCall sp_ledger (aCons (eVar 0) (aCons (eVar 1) aNil)))))
/-! law: script 0, k 1, tree 2, bound 3, due 4, rows 5, digits 6, place 7, name 8, many 9, held 10, others 11, other 12, weight 13 -/
def N_law : List Str := ["script", "k", "tree", "bound", "due", "rows", "digits", "place", "name", "many", "held", "others", "other", "weight"]
def t_law_1 : ST := (sSeq (sSet 6 (eCall sp_law_drawB (aCons (eVar 0) (aCons (eOp fAdd (eOp (fI CMul (· * ·)) (eC (.int 3)) (eVar 1)) (eC (.int 2))) (aCons (eLst (iCons (eC (.int 12)) (iCons (eC (.int 3)) (iCons (eC (.int 4)) aNil)))) aNil)))))
  (sSeq (sSet 7 (eOp (fI (fun _ j => 0 < j) (· % ·)) (eOp fIx (eVar 6) (eC (.int 0))) (eCB fLen (aCons (eVar 5) aNil))))
  (sSeq (sAsg (eOp fIx (eVar 5) (eVar 7)) (tTup (fits 3 (tsCons (tName 8) (tsCons (tName 9) (tsCons (tName 10) tsNil))))))
  (sSeq (sFrz 5 (sSet 11 (eLst (iCons (eVar 5) (iCons (eOp fAdd (eOp fAdd (eSl (eVar 5) oNone (oSome (eVar 7))) (eLst (iCons (eTup (iCons (eVar 8) (iCons (eOp fSub (eOp fAdd (eVar 9) (eOp fIx (eVar 6) (eC (.int 1)))) (eC (.int 1))) (iCons (eVar 10) aNil)))) aNil))) (eSl (eVar 5) (oSome (eOp fAdd (eVar 7) (eC (.int 1)))) oNone)) aNil)))))
  (sSeq (sSet 11 (eOp fAdd (eVar 11) (eLst (iCons (eOp fAdd (eOp fAdd (eSl (eVar 5) oNone (oSome (eVar 7))) (eLst (iCons (eTup (iCons (eVar 8) (iCons (eVar 9) (iCons (eOp fSub (eOp fAdd (eVar 10) (eOp fIx (eVar 6) (eC (.int 2)))) (eC (.int 1))) aNil)))) aNil))) (eSl (eVar 5) (oSome (eOp fAdd (eVar 7) (eC (.int 1)))) oNone)) (iCons (eOp fAdd (eSl (eVar 5) oNone (oSome (eVar 7))) (eSl (eVar 5) (oSome (eOp fAdd (eVar 7) (eC (.int 1)))) oNone)) aNil)))))
  (sSeq (sSet 11 (eOp fAdd (eVar 11) (eLst (iCons (eOp fAdd (eVar 5) (eSl (eVar 5) oNone (oSome (eC (.int 1))))) (iCons (eRevL (eVar 5)) (iCons (eOp fAdd (eOp fAdd (eSl (eVar 5) oNone (oSome (eVar 7))) (eLst (iCons (eTup (iCons (eC (.str "none")) (iCons (eVar 9) (iCons (eVar 10) aNil)))) aNil))) (eSl (eVar 5) (oSome (eOp fAdd (eVar 7) (eC (.int 1)))) oNone)) aNil))))))
  (sFrz 11 (sForget [1, 5, 6, 7, 8, 9, 10, 12] (sFor (itSeq (eVar 11)) (tName 12) (sIf (bCmp fNe (eCall sp_is_right (aCons (eVar 2) (aCons (eVar 3) (aCons (eVar 12) aNil)))) (eAnd (eCmp (fIsN true) (eVar 4) (eC .non)) (eCmp fEq (eVar 12) (eOp fIx (eVar 4) (eC (.int 1)))))) (sRet (eC (.bl false))) sNext) [1, 5, 6, 7, 8, 9, 10, 11, 12])))))))))
def t_law_2 : ST := (sRet (eC (.bl true)))
def t_law : ST := (sSeq (sForget [1, 2, 3, 4, 5, 6, 7, 8, 9, 10, 11, 12] (sFor (itR1 (aCons (eCB fMinX (aCons (eC (.int 10)) (aCons (eCB fMaxX (aCons (eC (.int 1)) (aCons (eOp (fI CDiv (· / ·)) (eCB fLen (aCons (eVar 0) aNil)) (eC (.int 3))) aNil))) aNil))) aNil)) (tName 1) (sSeq (sSet 2 (eCall sp_law_treeB (aCons (eVar 0) (aCons (eOp (fI CMul (· * ·)) (eC (.int 3)) (eVar 1)) (aCons (eC (.int 10)) aNil)))))
  (sSeq (sSet 3 (eCall sp_law_bound (aCons (eVar 0) (aCons (eOp fAdd (eOp (fI CMul (· * ·)) (eC (.int 3)) (eVar 1)) (eC (.int 1))) (aCons (eVar 2) aNil)))))
  (sSeq (sSet 4 (eCall sp_law_ledger (aCons (eVar 2) (aCons (eVar 3) aNil))))
  (sSeq (sSet 5 (eLc (itSeq (eOp fIx (eVar 2) (eC (.int 0)))) [8, 13] (tTup (fits 2 (tsCons (tName 8) (tsCons (tName 13) tsNil)))) bYes (eTup (iCons (eVar 8) (iCons (eC (.int 0)) (iCons (eVar 13) aNil))))))
  (sSeq (sIf (bCmp (fIsN true) (eVar 4) (eC .non)) (sSet 5 (eOp fIx (eVar 4) (eC (.int 1)))) sNext)
  t_law_1))))) [1, 2, 3, 4, 5, 6, 7, 8, 9, 10, 11, 12]))
  t_law_2)
theorem len_is_right : ∀ ds e q, sp_is_right ds e q → ds.length = ["some_tree", "bound", "rows"].length := by
  rintro _ e q ⟨T, d, b, X, rfl, _⟩
  rfl
theorem led_ok {T : Tr} {d : Str → Str → Int} {b : Int} (L : LTree T d) : (ledD T d b).ok = true ∧ (ledD T d b).dep ≤ 64 := by
  refine ⟨okA_map fun x hx => ?_, Nat.le_trans (Nat.succ_le_succ (depA_map (n := 1) fun x _ => Nat.le_refl 1)) (by decide)⟩
  show (PyData.strOk x && (true && (true && true))) = true
  rw [nm_strOk (L.nm x hx)]
  rfl
theorem m_is_right : ∀ ds e q, sp_is_right ds e q → t_is_right { nx := fun _ => q .non, rt := q, xe := fun x _ => e x } (startD N_is_right ds) := by
  rintro _ e q ⟨T, d, b, X, rfl, L, ⟨ok, dp, nn⟩, h1, h2, h3⟩
  refine ⟨T, d, b, rfl, L, fun hv => ?_, fun hv => ?_⟩
  · exact eq_ways (A := True) ok rfl dp (Nat.zero_le _) (fun z => absurd z nn) fun _ => ⟨rfl, h1 hv⟩
  · obtain ⟨k1, k2⟩ := led_ok (b := b) L
    exact eq_ways (A := True) ok k1 dp k2 (fun z => ⟨rfl, h2 hv z⟩) fun z => ⟨rfl, h3 hv z⟩
theorem len_law : ∀ ds e q, sp_law ds e q → ds.length = ["script"].length := by
  rintro _ e q ⟨ns, rfl, _⟩
  rfl
def RowsK (l : List D) : Prop := ∀ d ∈ l, d.ok = true ∧ d.dep ≤ 1
theorem RowsK.cut {l : List D} (h : RowsK l) (i j : Option Int) : RowsK (cutD l i j) := fun d hd => h d (List.mem_of_mem_drop (List.mem_of_mem_take hd))
theorem RowsK.app {l m : List D} (h : RowsK l) (g : RowsK m) : RowsK (l ++ m) := fun d hd => (List.mem_append.mp hd).elim (h d) (g d)
theorem RowsK.rev {l : List D} (h : RowsK l) : RowsK l.reverse := fun d hd => h d (List.mem_reverse.mp hd)
theorem RowsK.one {x : Str} {i j : Int} (h : PyData.strOk x = true) : RowsK [.tup [.str x, .int i, .int j]] := fun d hd => by
  rw [List.mem_singleton.mp hd]
  refine ⟨?_, Nat.le_refl 1⟩
  show (PyData.strOk x && (true && (true && true))) = true
  rw [h]
  rfl
theorem RowsK.good {l : List D} (h : RowsK l) : (D.lst l).ok = true ∧ (D.lst l).dep ≤ 64 ∧ D.lst l ≠ .non := by
  have e : l = l.map id := (List.map_id l).symm
  refine ⟨?_, ?_, fun z => nomatch z⟩
  · show okA l = true
    rw [e]
    exact okA_map fun d hd => (h d hd).1
  · rw [e]
    exact Nat.le_trans (Nat.succ_le_succ (depA_map (n := 1) fun d hd => (h d hd).2)) (by decide)
def row3 (p : Str × Int × Int) : D := .tup [.str p.1, .int p.2.1, .int p.2.2]
theorem cut_len3 (l : List D) (i j : Option Int) : (cutD l i j).length ≤ l.length := by
  unfold cutD
  rw [List.length_take, List.length_drop]
  omega
theorem forR_map63 {α : Type} (g : α → D) (Inv : List α → DSt → Prop) {f : Gv} {tg : GT} {tb : ST} {fg : List Nat} {E : En} (h0 : ∀ δ, Inv [] δ → E.nx δ)
    (h1 : ∀ a r δ (nx : DSt → Prop), Inv (a :: r) δ → (∀ δ', Inv r δ' → nx δ') → tg f (g a) δ fun δ2 => tb { E with nx := fun δ' => nx (forget fg δ'), ct := fun δ' => nx (forget fg δ'), bk := E.nx } δ2)
    {ds : List D} (l : List α) (e : ds = l.map g) (δ : DSt) (h : Inv l δ) : forR f tg tb fg E ds δ := by
  subst e
  exact forR_map g Inv h0 h1 l δ h
theorem law_1c {T : Tr} {d : Str → Str → Int} {b : Int} (L : LTree T d) {ns : List Int} {u : D} (hu : (u = .non ∧ Heavy T b) ∨ ∃ c, u = .tup [c, ledD T d b] ∧ ¬ Heavy T b) {x1 x5 x6 x7 x8 x9 x10 : Sl} {E : En}
    (hnx : ∀ x1 x2 x3 x4 x5 x6 x7 x8 x9 x10 x11 x12, E.nx [.sh (intsD ns), x1, x2, x3, x4, x5, x6, x7, x8, x9, x10, x11, x12, .un]) {XS : List D} (hX : ∀ X ∈ XS, D.ok X = true ∧ X.dep ≤ 64 ∧ X ≠ .non) :
    (sFrz 11 (sForget [1, 5, 6, 7, 8, 9, 10, 12] (sFor (itSeq (eVar 11)) (tName 12) (sIf (bCmp fNe (eCall sp_is_right (aCons (eVar 2) (aCons (eVar 3) (aCons (eVar 12) aNil)))) (eAnd (eCmp (fIsN true) (eVar 4) (eC .non)) (eCmp fEq (eVar 12) (eOp fIx (eVar 4) (eC (.int 1)))))) (sRet (eC (.bl false))) sNext) [1, 5, 6, 7, 8, 9, 10, 11, 12]))) E
      [.sh (intsD ns), x1, .fr (treeD T), .fr (.int b), .fr u, x5, x6, x7, x8, x9, x10, .ow (.lst XS), .un, .un] := by
  show forR _ _ _ _ _ XS [.sh (intsD ns), .un, .fr (treeD T), .fr (.int b), .fr u, .un, .un, .un, .un, .un, .un, .sh (.lst XS), .un, .un]
  refine forR_map63 id (fun r δ => (∀ X ∈ r, D.ok X = true ∧ X.dep ≤ 64 ∧ X ≠ .non) ∧ ∃ s11, δ = [.sh (intsD ns), .un, .fr (treeD T), .fr (.int b), .fr u, .un, .un, .un, .un, .un, .un, s11, .un, .un]) ?_ ?_ XS (List.map_id XS).symm _ ⟨hX, _, rfl⟩
  · rintro δ ⟨_, s11, rfl⟩
    exact hnx _ _ _ _ _ _ _ _ _ _ _ _
  · rintro X r δ nx ⟨hr, s11, rfl⟩ hnx2
    obtain ⟨k1, k2, k3⟩ := hr X (by simp)
    have nxt := hnx2 _ ⟨fun Y hY => hr Y (List.mem_cons_of_mem _ hY), .un, rfl⟩
    rcases hu with ⟨rfl, hv⟩ | ⟨c, rfl, hv⟩
    · refine ⟨T, d, b, X, rfl, L, ⟨k1, k2, k3⟩, fun _ => ?_, fun z => absurd hv z, fun z => absurd hv z⟩
      exact nxt
    · obtain ⟨o1, o2⟩ := led_ok (b := b) L
      refine ⟨T, d, b, X, rfl, L, ⟨k1, k2, k3⟩, fun z => absurd z hv, fun _ z => ?_, fun _ z => ?_⟩
      · refine ⟨_, rfl, eq_ways (A := True) k1 o1 k2 o2 (fun _ => ?_) fun y => absurd z y⟩
        exact nxt
      · refine ⟨_, rfl, eq_ways (A := True) k1 o1 k2 o2 (fun y => absurd y z) fun _ => ?_⟩
        exact nxt
theorem law_1b {T : Tr} {d : Str → Str → Int} {b : Int} (L : LTree T d) {ns dg : List Int} {w : Nat} {pp : Int} {R : List (Str × Int × Int)} {x : Str × Int × Int} (hR : 1 ≤ R.length ∧ R.length ≤ 12) (okR : ∀ p ∈ R, PyData.strOk p.1 = true) (hx : x ∈ R) {a1 a2 : Int} (at1 : atI (dg.map D.int) 1 = some (.int a1)) (at2 : atI (dg.map D.int) 2 = some (.int a2)) {u : D}
    (hu : (u = .non ∧ Heavy T b) ∨ ∃ c, u = .tup [c, ledD T d b] ∧ ¬ Heavy T b) {E : En}
    (hnx : ∀ x1 x2 x3 x4 x5 x6 x7 x8 x9 x10 x11 x12, E.nx [.sh (intsD ns), x1, x2, x3, x4, x5, x6, x7, x8, x9, x10, x11, x12, .un]) :
    (sSeq (sSet 11 (eLst (iCons (eVar 5) (iCons (eOp fAdd (eOp fAdd (eSl (eVar 5) oNone (oSome (eVar 7))) (eLst (iCons (eTup (iCons (eVar 8) (iCons (eOp fSub (eOp fAdd (eVar 9) (eOp fIx (eVar 6) (eC (.int 1)))) (eC (.int 1))) (iCons (eVar 10) aNil)))) aNil))) (eSl (eVar 5) (oSome (eOp fAdd (eVar 7) (eC (.int 1)))) oNone)) aNil))))
  (sSeq (sSet 11 (eOp fAdd (eVar 11) (eLst (iCons (eOp fAdd (eOp fAdd (eSl (eVar 5) oNone (oSome (eVar 7))) (eLst (iCons (eTup (iCons (eVar 8) (iCons (eVar 9) (iCons (eOp fSub (eOp fAdd (eVar 10) (eOp fIx (eVar 6) (eC (.int 2)))) (eC (.int 1))) aNil)))) aNil))) (eSl (eVar 5) (oSome (eOp fAdd (eVar 7) (eC (.int 1)))) oNone)) (iCons (eOp fAdd (eSl (eVar 5) oNone (oSome (eVar 7))) (eSl (eVar 5) (oSome (eOp fAdd (eVar 7) (eC (.int 1)))) oNone)) aNil)))))
  (sSeq (sSet 11 (eOp fAdd (eVar 11) (eLst (iCons (eOp fAdd (eVar 5) (eSl (eVar 5) oNone (oSome (eC (.int 1))))) (iCons (eRevL (eVar 5)) (iCons (eOp fAdd (eOp fAdd (eSl (eVar 5) oNone (oSome (eVar 7))) (eLst (iCons (eTup (iCons (eC (.str "none")) (iCons (eVar 9) (iCons (eVar 10) aNil)))) aNil))) (eSl (eVar 5) (oSome (eOp fAdd (eVar 7) (eC (.int 1)))) oNone)) aNil))))))
  (sFrz 11 (sForget [1, 5, 6, 7, 8, 9, 10, 12] (sFor (itSeq (eVar 11)) (tName 12) (sIf (bCmp fNe (eCall sp_is_right (aCons (eVar 2) (aCons (eVar 3) (aCons (eVar 12) aNil)))) (eAnd (eCmp (fIsN true) (eVar 4) (eC .non)) (eCmp fEq (eVar 12) (eOp fIx (eVar 4) (eC (.int 1)))))) (sRet (eC (.bl false))) sNext) [1, 5, 6, 7, 8, 9, 10, 11, 12])))))) E [.sh (intsD ns), .sh (.int (w : Int)), .fr (treeD T), .fr (.int b), .fr u, .sh (.lst (R.map row3)), .fr (intsD dg), .sh (.int pp), .sh (.str x.1), .sh (.int x.2.1), .sh (.int x.2.2), .un, .un, .un] := by
  have K : RowsK (R.map row3) := fun v hv => by
    obtain ⟨p, hp, rfl⟩ := List.mem_map.mp hv
    exact RowsK.one (okR p hp) _ (List.mem_singleton.mpr rfl)
  have len : (R.map row3).length ≤ 12 := by rw [List.length_map]; exact hR.2
  have cl := fun i j => Nat.le_trans (cut_len3 (R.map row3) i j) len
  have kx := okR x hx
  have A1 : ∀ v : D, (cutD (R.map row3) none (some pp)).length + [v].length ≤ sizeLine := fun v => line1000 (by
    have h1 := cl none (some pp)
    rw [List.length_singleton]
    omega)
  have A2 : ∀ v : D, (cutD (R.map row3) none (some pp) ++ [v]).length + (cutD (R.map row3) (some (pp + 1)) none).length ≤ sizeLine := fun v => line1000 (by
    have h1 := cl none (some pp)
    have h2 := cl (some (pp + 1)) none
    rw [List.length_append, List.length_singleton]
    omega)
  have A3 : (cutD (R.map row3) none (some pp)).length + (cutD (R.map row3) (some (pp + 1)) none).length ≤ sizeLine := line1000 (by
    have h1 := cl none (some pp)
    have h2 := cl (some (pp + 1)) none
    omega)
  have A4 : (R.map row3).length + (cutD (R.map row3) none (some 1)).length ≤ sizeLine := line1000 (by
    have h1 := cl none (some 1)
    omega)
  refine ⟨.int a1, at1, (show 3 ≤ sizeLine by decide), (show 1 ≤ sizeLine by decide), A1 _, A2 _, (show 2 ≤ sizeLine by decide), ?_⟩
  refine ⟨.int a2, at2, (show 3 ≤ sizeLine by decide), (show 1 ≤ sizeLine by decide), A1 _, A2 _, A3, (show 2 ≤ sizeLine by decide), (show 2 + 2 ≤ sizeLine by decide), ?_⟩
  refine ⟨A4, (show 3 ≤ sizeLine by decide), (show 1 ≤ sizeLine by decide), A1 _, A2 _, (show 3 ≤ sizeLine by decide), (show 4 + 3 ≤ sizeLine by decide), ?_⟩
  refine law_1c L hu hnx fun X hX => ?_
  have K1 := K.cut none (some pp)
  have K2 := K.cut (some (pp + 1)) none
  simp only [List.mem_append, List.mem_cons, List.not_mem_nil, or_false] at hX
  rcases hX with ((rfl | rfl) | rfl | rfl) | rfl | rfl | rfl
  · exact K.good
  · exact ((K1.app (RowsK.one kx)).app K2).good
  · exact ((K1.app (RowsK.one kx)).app K2).good
  · exact (K1.app K2).good
  · exact (K.app (K.cut none (some 1))).good
  · exact K.rev.good
  · exact ((K1.app (RowsK.one (by decide +kernel))).app K2).good
theorem law_1 {T : Tr} {d : Str → Str → Int} {b : Int} (L : LTree T d) {ns : List Int} {w : Nat} {R : List (Str × Int × Int)} (hR : 1 ≤ R.length ∧ R.length ≤ 12) (okR : ∀ p ∈ R, PyData.strOk p.1 = true) {u : D}
    (hu : (u = .non ∧ Heavy T b) ∨ ∃ c, u = .tup [c, ledD T d b] ∧ ¬ Heavy T b) {x5 : Sl} (h5 : x5 = .sh (.lst (R.map row3)) ∨ x5 = .ow (.lst (R.map row3))) {E : En}
    (hnx : ∀ x1 x2 x3 x4 x5 x6 x7 x8 x9 x10 x11 x12, E.nx [.sh (intsD ns), x1, x2, x3, x4, x5, x6, x7, x8, x9, x10, x11, x12, .un]) :
    t_law_1 E [.sh (intsD ns), .sh (.int (w : Int)), .fr (treeD T), .fr (.int b), .fr u, x5, .un, .un, .un, .un, .un, .un, .un, .un] := by
  refine ⟨.inl ⟨by decide, by decide⟩, (show 3 ≤ sizeLine by decide), ns, 3 * (w : Int) + 2, [12, 3, 4], rfl, by omega, by decide, by decide +kernel, fun dg hb => ?_⟩
  obtain ⟨a0, e0, b0, b0'⟩ := hb.get (j := 0) rfl
  obtain ⟨a1, e1, b1, b1'⟩ := hb.get (j := 1) rfl
  obtain ⟨a2, e2, b2, b2'⟩ := hb.get (j := 2) rfl
  have at0 : atI (dg.map D.int) 0 = some (.int a0) := atI_int (j := 0) e0
  have at1 : atI (dg.map D.int) 1 = some (.int a1) := atI_int (j := 1) e1
  have at2 : atI (dg.map D.int) 2 = some (.int a2) := atI_int (j := 2) e2
  have lR : ((R.map row3).length : Int) = (R.length : Int) := by rw [List.length_map]
  have m1 := Int.emod_nonneg a0 (show (R.length : Int) ≠ 0 by omega)
  have m2 := Int.emod_lt_of_pos a0 (show (0 : Int) < R.length by omega)
  obtain ⟨p, hp⟩ : ∃ p : Nat, a0 % (R.length : Int) = (p : Int) := ⟨(a0 % (R.length : Int)).toNat, by omega⟩
  obtain ⟨x, ex⟩ := at_lt (ns := R) (j := p) (by omega)
  have hx : x ∈ R := List.mem_of_getElem? ex
  have ep := at_map row3 ex
  rcases h5 with rfl | rfl
  · refine ⟨.int a0, at0, (show (0 : Int) < ((R.map row3).length : Int) by rw [lR]; omega), ?_⟩
    refine ⟨row3 x, ?_, ?_⟩
    · show atI (R.map row3) (a0 % ((R.map row3).length : Int)) = _
      rw [lR, hp]
      exact ep
    · exact ⟨rfl, law_1b L hR okR hx at1 at2 hu hnx⟩
  · refine ⟨.int a0, at0, (show (0 : Int) < ((R.map row3).length : Int) by rw [lR]; omega), ?_⟩
    refine ⟨row3 x, ?_, ?_⟩
    · show atI (R.map row3) (a0 % ((R.map row3).length : Int)) = _
      rw [lR, hp]
      exact ep
    · exact ⟨rfl, law_1b L hR okR hx at1 at2 hu hnx⟩
theorem m_law : ∀ ds e q, sp_law ds e q → t_law { nx := fun _ => q .non, rt := q, xe := fun x _ => e x } (startD N_law ds) := by
  rintro _ e q ⟨ns, rfl, hn, h⟩
  have lm : ((ns.map D.int).length : Int) = ns.length := by rw [List.length_map]
  refine ⟨⟨by decide, by decide⟩, ?_⟩
  obtain ⟨k, hk, hk8⟩ : ∃ k : Nat, (if (if ((ns.map D.int).length : Int) / 3 > 1 then ((ns.map D.int).length : Int) / 3 else 1) < 10 then (if ((ns.map D.int).length : Int) / 3 > 1 then ((ns.map D.int).length : Int) / 3 else 1) else 10) = (k : Int) ∧ k ≤ 10 := by
    have go : ∀ v : Int, 0 ≤ v → ∃ k : Nat, (if (if v > 1 then v else 1) < 10 then (if v > 1 then v else 1) else 10) = (k : Int) ∧ k ≤ 10 := fun v hv => by
      by_cases c : v > 1
      · rw [if_pos c]
        by_cases c2 : v < 10
        · rw [if_pos c2]
          exact ⟨v.toNat, by omega, by omega⟩
        · rw [if_neg c2]
          exact ⟨10, rfl, Nat.le_refl _⟩
      · rw [if_neg c]
        exact ⟨1, rfl, by decide⟩
    exact go _ (by omega)
  show (-(2 ^ 62) ≤ (if (if ((ns.map D.int).length : Int) / 3 > 1 then ((ns.map D.int).length : Int) / 3 else 1) < 10 then (if ((ns.map D.int).length : Int) / 3 > 1 then ((ns.map D.int).length : Int) / 3 else 1) else 10) ∧ (if (if ((ns.map D.int).length : Int) / 3 > 1 then ((ns.map D.int).length : Int) / 3 else 1) < 10 then (if ((ns.map D.int).length : Int) / 3 > 1 then ((ns.map D.int).length : Int) / 3 else 1) else 10) < 2 ^ 62) ∧
    forR _ _ _ _ _ (rangeD 0 (if (if ((ns.map D.int).length : Int) / 3 > 1 then ((ns.map D.int).length : Int) / 3 else 1) < 10 then (if ((ns.map D.int).length : Int) / 3 > 1 then ((ns.map D.int).length : Int) / 3 else 1) else 10).toNat) _
  rw [hk, Int.toNat_natCast]
  refine ⟨⟨by omega, by omega⟩, ?_⟩
  refine forR_upto (fun w δ => δ = [.sh (intsD ns), .un, .un, .un, .un, .un, .un, .un, .un, .un, .un, .un, .un, .un]) ?_ ?_ _ rfl
  · rintro δ rfl
    exact ⟨rfl, h⟩
  rintro w δ nx hw rfl hnx
  refine ⟨.inl ⟨by decide, by decide⟩, ns, 3 * (w : Int), 10, rfl, by omega, by decide, fun T d L _ => ?_⟩
  refine ⟨.inl ⟨by decide, by decide⟩, ns, 3 * (w : Int) + 1, T, d, rfl, by omega, L, fun b => ?_⟩
  have n12 : 1 ≤ T.names.length ∧ T.names.length ≤ 12 := by
    rw [Tr.names, List.length_map]
    exact L.len
  have nn : T.nodes.length = T.names.length := by rw [Tr.names, List.length_map]
  have sok : ∀ x ∈ T.names, PyData.strOk x = true := fun x hx => nm_strOk (L.nm x hx)
  have row0 : T.nodes.map (fun p => D.tup [.str p.1, .int 0, .int p.2]) = (T.nodes.map fun p => ((p.1, 0, p.2) : Str × Int × Int)).map row3 := by rw [List.map_map]; rfl
  have rowT : T.names.map (rowL T d b) = (T.names.map fun x => ((x, (setV T d (rootT T) b x).2.1, (setV T d (rootT T) b x).2.2) : Str × Int × Int)).map row3 := by rw [List.map_map]; rfl
  refine ⟨T, d, b, rfl, L, fun hv => ?_, fun hv => ?_⟩
  · refine ⟨.tup (T.nodes.map nodeD), rfl, ⟨⟨trivial, trivial, trivial⟩, by rw [List.length_map]; exact line1000 L.small.1⟩, ?_⟩
    refine lcR_all nodeD (fun p => D.tup [.str p.1, .int 0, .int p.2]) _ (fun p hp A hA => ⟨rfl, (show 3 ≤ sizeLine by decide), hA⟩) _ ?_
    rw [row0]
    show t_law_1 _ [.sh (intsD ns), .sh (.int (w : Int)), .fr (treeD T), .fr (.int b), .fr .non, .ow (.lst ((T.nodes.map fun p => ((p.1, 0, p.2) : Str × Int × Int)).map row3)), .un, .un, .un, .un, .un, .un, .un, .un]
    refine law_1 L (R := T.nodes.map fun p => (p.1, 0, p.2)) ⟨by rw [List.length_map]; omega, by rw [List.length_map]; omega⟩ (fun p hp => ?_) (.inl ⟨rfl, hv⟩) (.inr rfl) fun x1 x2 x3 x4 x5 x6 x7 x8 x9 x10 x11 x12 => ?_
    · obtain ⟨p', hp', rfl⟩ := List.mem_map.mp hp
      exact sok _ (List.mem_map.mpr ⟨p', hp', rfl⟩)
    · exact hnx _ rfl
  · refine ⟨.tup (T.nodes.map nodeD), rfl, ⟨⟨trivial, trivial, trivial⟩, by rw [List.length_map]; exact line1000 L.small.1⟩, ?_⟩
    refine lcR_all nodeD (fun p => D.tup [.str p.1, .int 0, .int p.2]) _ (fun p hp A hA => ⟨rfl, (show 3 ≤ sizeLine by decide), hA⟩) _ ?_
    refine ⟨.lst (T.names.map (rowL T d b)), rfl, ?_⟩
    show t_law_1 _ [.sh (intsD ns), .sh (.int (w : Int)), .fr (treeD T), .fr (.int b), .fr (.tup [.lst (sortD ((cutL T d b).map pairS)), .lst (T.names.map (rowL T d b))]), .sh (.lst (T.names.map (rowL T d b))), .un, .un, .un, .un, .un, .un, .un, .un]
    refine law_1 L (R := T.names.map fun x => (x, (setV T d (rootT T) b x).2.1, (setV T d (rootT T) b x).2.2)) ⟨by rw [List.length_map]; omega, by rw [List.length_map]; omega⟩ (fun p hp => ?_) (.inr ⟨_, rfl, hv⟩) (.inl ?_) fun x1 x2 x3 x4 x5 x6 x7 x8 x9 x10 x11 x12 => ?_
    · obtain ⟨x, hx, rfl⟩ := List.mem_map.mp hp
      exact sok _ hx
    · rw [← rowT]
    · exact hnx _ rfl
end DL

set_option Elab.async false
set_option linter.all false
set_option maxRecDepth 100000
set_option maxHeartbeats 4000000
namespace K63
open PySem PySem.Spec PyProof.Rows L2 DL

/-! ### the text -/
def topS (i : Nat) : Stmt := PySem.Challenge.pw_treeserved_k63_ledgers_judged.main.body.getD i (.Pass ⟨0, 0, 0, 0⟩)
abbrev s_names_of : Stmt := topS 1
theorem sc_names_of : FnScope N_names_of ["some_tree"] (defScope s_names_of) := ⟨rfl, rfl, rfl, by decide +kernel, rfl, by decide +kernel, by decide +kernel⟩
abbrev s_weight_of : Stmt := topS 2
theorem sc_weight_of : FnScope N_weight_of ["some_tree", "name"] (defScope s_weight_of) := ⟨rfl, rfl, rfl, by decide +kernel, rfl, by decide +kernel, by decide +kernel⟩
abbrev s_neighbors : Stmt := topS 3
theorem sc_neighbors : FnScope N_neighbors ["some_tree", "name"] (defScope s_neighbors) := ⟨rfl, rfl, rfl, by decide +kernel, rfl, by decide +kernel, by decide +kernel⟩
abbrev s_away_from : Stmt := topS 4
theorem sc_away_from : FnScope N_away_from ["some_tree", "start"] (defScope s_away_from) := ⟨rfl, rfl, rfl, by decide +kernel, rfl, by decide +kernel, by decide +kernel⟩
abbrev s_settled : Stmt := topS 6
theorem sc_settled : FnScope N_settled ["some_tree", "bound"] (defScope s_settled) := ⟨rfl, rfl, rfl, by decide +kernel, rfl, by decide +kernel, by decide +kernel⟩
abbrev s_ledger : Stmt := topS 7
theorem sc_ledger : FnScope N_ledger ["some_tree", "bound"] (defScope s_ledger) := ⟨rfl, rfl, rfl, by decide +kernel, rfl, by decide +kernel, by decide +kernel⟩
abbrev s_is_right : Stmt := topS 8
theorem sc_is_right : FnScope N_is_right ["some_tree", "bound", "rows"] (defScope s_is_right) := ⟨rfl, rfl, rfl, by decide +kernel, rfl, by decide +kernel, by decide +kernel⟩
abbrev s_law_cell : Stmt := topS 10
theorem sc_law_cell : FnScope N_law_cell ["script", "k"] (defScope s_law_cell) := ⟨rfl, rfl, rfl, by decide +kernel, rfl, by decide +kernel, by decide +kernel⟩
abbrev s_law_drawB : Stmt := topS 11
theorem sc_law_drawB : FnScope N_law_drawB ["script", "k", "sizes"] (defScope s_law_drawB) := ⟨rfl, rfl, rfl, by decide +kernel, rfl, by decide +kernel, by decide +kernel⟩
abbrev s_law_treeB : Stmt := topS 12
theorem sc_law_treeB : FnScope N_law_treeB ["script", "k", "most"] (defScope s_law_treeB) := ⟨rfl, rfl, rfl, by decide +kernel, rfl, by decide +kernel, by decide +kernel⟩
abbrev s_law_names : Stmt := topS 13
theorem sc_law_names : FnScope N_law_names ["tree"] (defScope s_law_names) := ⟨rfl, rfl, rfl, by decide +kernel, rfl, by decide +kernel, by decide +kernel⟩
abbrev s_law_nearB : Stmt := topS 14
theorem sc_law_nearB : FnScope N_law_nearB ["tree", "name"] (defScope s_law_nearB) := ⟨rfl, rfl, rfl, by decide +kernel, rfl, by decide +kernel, by decide +kernel⟩
abbrev s_law_ways : Stmt := topS 15
theorem sc_law_ways : FnScope N_law_ways ["tree", "start"] (defScope s_law_ways) := ⟨rfl, rfl, rfl, by decide +kernel, rfl, by decide +kernel, by decide +kernel⟩
abbrev s_law_ledger : Stmt := topS 16
theorem sc_law_ledger : FnScope N_law_ledger ["tree", "bound"] (defScope s_law_ledger) := ⟨rfl, rfl, rfl, by decide +kernel, rfl, by decide +kernel, by decide +kernel⟩
abbrev s_law_bound : Stmt := topS 17
theorem sc_law_bound : FnScope N_law_bound ["script", "k", "tree"] (defScope s_law_bound) := ⟨rfl, rfl, rfl, by decide +kernel, rfl, by decide +kernel, by decide +kernel⟩
abbrev s_law : Stmt := topS 18
theorem sc_law : FnScope N_law ["script"] (defScope s_law) := ⟨rfl, rfl, rfl, by decide +kernel, rfl, by decide +kernel, by decide +kernel⟩
/-! ### the defs, one by one -/
theorem room64 {k : Nat} {A : Around} (r : Room k A) : A.units + 64 < cLine := by
  have := r.un
  omega
theorem room65 {k : Nat} {A : Around} (r : Room k A) : A.units + 65 < cLine := by
  have := r.un
  omega
theorem room1 {A : Around} (h : A.units + 64 < cLine) : A.units + 1 < cLine := by omega
section
variable {P : Program} {w : World} {K : PySem.W.Frag} {mg : Str → Option Value} {base : Heap}
theorem fn_names_of {f : Addr} {fd : FuncData} (F : FnP K "names_of" s_names_of f fd) : FnOk P w K mg base (L2.CX P w) 1 f fd ["some_tree"] (SpD K sp_names_of) :=
  fn_by (k := 0) F sc_names_of len_names_of t_names_of (fun cdv A outer s H E hr tk => by
    have hu : (cxOf (L2.CX P w) P w K mg base N_names_of "names_of" (defScope s_names_of) f cdv A outer s H E).A.units + 64 < cLine := room64 hr
    have hu1 := room1 hu
    have hu5 : (cxOf (L2.CX P w) P w K mg base N_names_of "names_of" (defScope s_names_of) f cdv A outer s H E).A.units + 65 < cLine := room65 hr
    exact (dss_one (ds_ret (de_lc [("name", 1), ("_", 2)] rfl sc_names_of.nd (it_seq (de_ix hu1 (de_var 0) de_int)) (blkOk_by (N := N_names_of) (sc := defScope s_names_of) (by decide +kernel)) (fun _ _ _ _ _ => (dg_tup rfl (dgs_cons (dg_name 1 sc_names_of.nd) (dgs_cons (dg_name 2 sc_names_of.nd) dgs_nil)))) (fun _ _ _ _ _ => dts_nil) (fun _ _ _ _ _ => (de_var 1)))))) m_names_of
theorem fn_weight_of {f : Addr} {fd : FuncData} (F : FnP K "weight_of" s_weight_of f fd) (n_dict : mg "dict" = none) : FnOk P w K mg base (L2.CX P w) 1 f fd ["some_tree", "name"] (SpD K sp_weight_of) :=
  fn_by (k := 0) F sc_weight_of len_weight_of t_weight_of (fun cdv A outer s H E hr tk => by
    have hu : (cxOf (L2.CX P w) P w K mg base N_weight_of "weight_of" (defScope s_weight_of) f cdv A outer s H E).A.units + 64 < cLine := room64 hr
    have hu1 := room1 hu
    have hu5 : (cxOf (L2.CX P w) P w K mg base N_weight_of "weight_of" (defScope s_weight_of) f cdv A outer s H E).A.units + 65 < cLine := room65 hr
    exact (dss_one (ds_ret (de_ix hu1 (de_ct snd_dict (call_dict rfl) (by rfl) n_dict bt_dict (da_cons (de_ix hu1 (de_var 0) de_int) da_nil)) (de_var 1))))) m_weight_of
theorem fn_neighbors {f : Addr} {fd : FuncData} (F : FnP K "neighbors" s_neighbors f fd) (n_sorted : mg "sorted" = none) : FnOk P w K mg base (L2.CX P w) 1 f fd ["some_tree", "name"] (SpD K sp_neighbors) :=
  fn_by (k := 0) F sc_neighbors len_neighbors t_neighbors (fun cdv A outer s H E hr tk => by
    have hu : (cxOf (L2.CX P w) P w K mg base N_neighbors "neighbors" (defScope s_neighbors) f cdv A outer s H E).A.units + 64 < cLine := room64 hr
    have hu1 := room1 hu
    have hu5 : (cxOf (L2.CX P w) P w K mg base N_neighbors "neighbors" (defScope s_neighbors) f cdv A outer s H E).A.units + 65 < cLine := room65 hr
    exact (dss_cons (ds_set 2 (de_lst di_nil) sc_neighbors.nd)
  (dss_cons (ds_forget [3, 4, 5] (ds_for [0, 3, 4, 5] (passes_of rfl) rfl (it_seq (de_ix hu1 (de_var 0) de_int)) (dg_tup rfl (dgs_cons (dg_name 3 sc_neighbors.nd) (dgs_cons (dg_name 4 sc_neighbors.nd) (dgs_cons (dg_name 5 sc_neighbors.nd) dgs_nil)))) (dss_one (ds_if (dt_cmp snd_eq (op_eq2 hu) (de_var 3) (de_var 1) (nomark _)) (dss_one (ds_app 2 (de_tup (di_cons (de_var 4) (di_cons (de_var 5) di_nil))))) (dss_one (ds_if (dt_cmp snd_eq (op_eq2 hu) (de_var 4) (de_var 1) (nomark _)) (dss_one (ds_app 2 (de_tup (di_cons (de_var 3) (di_cons (de_var 5) di_nil))))) dss_nil))))))
  (dss_one (ds_ret (de_cb snd_sorted cr_sorted2 (by rfl) n_sorted bt_sorted (da_cons (de_var 2) da_nil))))))) m_neighbors
theorem fn_away_from {f : Addr} {fd : FuncData} (F : FnP K "away_from" s_away_from f fd) (c_neighbors : Cal P w K mg base 1 "neighbors" ["some_tree", "name"] sp_neighbors) : FnOk P w K mg base (L2.CX P w) 2 f fd ["some_tree", "start"] (SpLc K sp_away_from) :=
  fn_byL (k := 1) F sc_away_from len_away_from t_away_from (fun cdv A outer s H E hr tk => by
    have hu : (cxOf (L2.CX P w) P w K mg base N_away_from "away_from" (defScope s_away_from) f cdv A outer s H E).A.units + 64 < cLine := room64 hr
    have hu1 := room1 hu
    have hu5 : (cxOf (L2.CX P w) P w K mg base N_away_from "away_from" (defScope s_away_from) f cdv A outer s H E).A.units + 65 < cLine := room65 hr
    exact (dss_cons (ds_set 2 de_dicN sc_away_from.nd)
  (dss_cons (ds_set 3 (de_lst (di_cons (de_tup (di_cons (de_var 1) (di_cons de_non di_nil))) di_nil)) sc_away_from.nd)
  (dss_cons (ds_forget [1, 4, 5] (ds_while [1, 4, 5] (passes_of rfl) (dt_tru (de_var 3)) (dss_cons (ds_pop 3 (dg_tup rfl (dgs_cons (dg_name 4 sc_away_from.nd) (dgs_cons (dg_name 5 sc_away_from.nd) dgs_nil))))
  (dss_cons (ds_asg (de_lc [("other", 6), ("length", 7)] rfl sc_away_from.nd (it_seq (de_calC c_neighbors hr (by rfl) tk (da_cons (de_var 0) (da_cons (de_var 4) da_nil)))) (blkOk_by (N := N_away_from) (sc := defScope s_away_from) (by decide +kernel)) (fun _ _ _ _ _ => (dg_tup rfl (dgs_cons (dg_name 6 sc_away_from.nd) (dgs_cons (dg_name 7 sc_away_from.nd) dgs_nil)))) (fun _ _ _ _ _ => (dts_one (dt_cmp snd_ne (op_ne2 hu) (de_var 6) (de_var 5) (nomark _)))) (fun _ _ _ _ _ => (de_tup (di_cons (de_var 6) (di_cons (de_var 7) di_nil))))) (dg_sub 2 hu1 (de_var 4)))
  (dss_one (ds_ext 3 (de_lc [("other", 6), ("_", 8)] rfl sc_away_from.nd (it_seq (de_ix hu1 (de_var 2) (de_var 4))) (blkOk_by (N := N_away_from) (sc := defScope s_away_from) (by decide +kernel)) (fun _ _ _ _ _ => (dg_tup rfl (dgs_cons (dg_name 6 sc_away_from.nd) (dgs_cons (dg_name 8 sc_away_from.nd) dgs_nil)))) (fun _ _ _ _ _ => dts_nil) (fun _ _ _ _ _ => (de_tup (di_cons (de_var 6) (di_cons (de_var 4) di_nil)))))))))))
  (dss_one (ds_retL (de_var 2))))))) m_away_from
theorem fn_settled {f : Addr} {fd : FuncData} (F : FnP K "_settled" s_settled f fd) (c_names_of : Cal P w K mg base 1 "names_of" ["some_tree"] sp_names_of) (c_weight_of : Cal P w K mg base 1 "weight_of" ["some_tree", "name"] sp_weight_of) (c_away_from : CalL P w K mg base 2 "away_from" ["some_tree", "start"] sp_away_from) (n_len : mg "len" = none) (n_list : mg "list" = none) (n_reversed : mg "reversed" = none) (n_sorted : mg "sorted" = none) (n_sum : mg "sum" = none) : FnOk P w K mg base (L2.CX P w) 3 f fd ["some_tree", "bound"] (SpLc K sp_settled) :=
  fn_byL (k := 2) F sc_settled len_settled t_settled (fun cdv A outer s H E hr tk => by
    have hu : (cxOf (L2.CX P w) P w K mg base N_settled "_settled" (defScope s_settled) f cdv A outer s H E).A.units + 64 < cLine := room64 hr
    have hu1 := room1 hu
    have hu5 : (cxOf (L2.CX P w) P w K mg base N_settled "_settled" (defScope s_settled) f cdv A outer s H E).A.units + 65 < cLine := room65 hr
    exact (dss_cons (ds_set 2 de_dicN sc_settled.nd)
  (dss_cons (ds_set 3 (de_callM c_away_from hr (by rfl) tk (da_cons (de_var 0) (da_cons (de_ix hu1 (de_calC c_names_of hr (by rfl) tk (da_cons (de_var 0) da_nil)) de_int) da_nil))) sc_settled.nd)
  (dss_cons (ds_forget [4, 5, 6, 7, 8, 9] (ds_for [4, 5, 6, 7, 8, 9] (passes_of rfl) rfl (it_rev (by rfl) n_reversed (di_cons (de_ct snd_listK (cr_listK rfl) (by rfl) n_list bt_list (da_cons (de_var 3) da_nil)) di_nil)) (dg_name 4 sc_settled.nd) (dss_cons (ds_set 5 (de_cb snd_sorted cr_sorted2 (by rfl) n_sorted bt_sorted (da_cons (de_lc [("end", 9), ("_", 10)] rfl sc_settled.nd (it_seq (de_ix hu1 (de_var 3) (de_var 4))) (blkOk_by (N := N_settled) (sc := defScope s_settled) (by decide +kernel)) (fun _ _ _ _ _ => (dg_tup rfl (dgs_cons (dg_name 9 sc_settled.nd) (dgs_cons (dg_name 10 sc_settled.nd) dgs_nil)))) (fun _ _ _ _ _ => dts_nil) (fun _ _ _ _ _ => (de_tup (di_cons (de_neg (de_ix hu1 (de_ix hu1 (de_var 2) (de_var 9)) de_int)) (di_cons (de_var 9) di_nil))))) da_nil)) sc_settled.nd)
  (dss_cons (ds_frz 5 (ds_set 6 (de_sub (de_calC c_weight_of hr (by rfl) tk (da_cons (de_var 0) (da_cons (de_var 4) da_nil))) (de_cb snd_sum (cr_sum rfl) (by rfl) n_sum bt_sum (da_cons (de_lc [("less", 8), ("_", 10)] rfl sc_settled.nd (it_seq (de_var 5)) (blkOk_by (N := N_settled) (sc := defScope s_settled) (by decide +kernel)) (fun _ _ _ _ _ => (dg_tup rfl (dgs_cons (dg_name 8 sc_settled.nd) (dgs_cons (dg_name 10 sc_settled.nd) dgs_nil)))) (fun _ _ _ _ _ => dts_nil) (fun _ _ _ _ _ => (de_var 8))) da_nil))) sc_settled.nd))
  (dss_cons (ds_set 7 (de_lst di_nil) sc_settled.nd)
  (dss_cons (ds_forget [8, 9] (ds_for [8, 9] (passes_of rfl) rfl (it_seq (de_var 5)) (dg_tup rfl (dgs_cons (dg_name 8 sc_settled.nd) (dgs_cons (dg_name 9 sc_settled.nd) dgs_nil))) (dss_one (ds_if (dt_cmp snd_gt op_gt (de_var 6) (de_var 1) (nomark _)) (dss_cons (ds_app 7 (de_var 9))
  (dss_one (ds_augAdd 6 sc_settled.nd (de_var 8)))) dss_nil))))
  (dss_cons (ds_if (dt_cmp snd_gt op_gt (de_var 6) (de_var 1) (nomark _)) (dss_one (ds_retL de_non)) dss_nil)
  (dss_one (ds_frz 7 (ds_asg (de_tup (di_cons (de_var 7) (di_cons (de_add (de_cb snd_len cr_len (by rfl) n_len bt_len (da_cons (de_var 7) da_nil)) (de_cb snd_sum (cr_sum rfl) (by rfl) n_sum bt_sum (da_cons (de_lc [("_", 10), ("end", 9)] rfl sc_settled.nd (it_seq (de_var 5)) (blkOk_by (N := N_settled) (sc := defScope s_settled) (by decide +kernel)) (fun _ _ _ _ _ => (dg_tup rfl (dgs_cons (dg_name 10 sc_settled.nd) (dgs_cons (dg_name 9 sc_settled.nd) dgs_nil)))) (fun _ _ _ _ _ => dts_nil) (fun _ _ _ _ _ => (de_ix hu1 (de_ix hu1 (de_var 2) (de_var 9)) de_int))) da_nil))) (di_cons (de_var 6) di_nil)))) (dg_sub 2 hu1 (de_var 4))))))))))))
  (dss_one (ds_retL (de_var 2))))))) m_settled
theorem fn_ledger {f : Addr} {fd : FuncData} (F : FnP K "ledger" s_ledger f fd) (c_names_of : Cal P w K mg base 1 "names_of" ["some_tree"] sp_names_of) (c_settled : CalL P w K mg base 3 "_settled" ["some_tree", "bound"] sp_settled) : FnOk P w K mg base (L2.CX P w) 4 f fd ["some_tree", "bound"] (SpD K sp_ledger) :=
  fn_by (k := 3) F sc_ledger len_ledger t_ledger (fun cdv A outer s H E hr tk => by
    have hu : (cxOf (L2.CX P w) P w K mg base N_ledger "ledger" (defScope s_ledger) f cdv A outer s H E).A.units + 64 < cLine := room64 hr
    have hu1 := room1 hu
    have hu5 : (cxOf (L2.CX P w) P w K mg base N_ledger "ledger" (defScope s_ledger) f cdv A outer s H E).A.units + 65 < cLine := room65 hr
    exact (dss_cons (ds_set 2 (de_callM c_settled hr (by rfl) tk (da_cons (de_var 0) (da_cons (de_var 1) da_nil))) sc_ledger.nd)
  (dss_cons (ds_if (dt_cmp snd_isN op_isNB (de_var 2) de_non (nomark _)) (dss_one (ds_ret de_non)) dss_nil)
  (dss_one (ds_ret (de_lc [("name", 3)] rfl sc_ledger.nd (it_seq (de_calC c_names_of hr (by rfl) tk (da_cons (de_var 0) da_nil))) (blkOk_by (N := N_ledger) (sc := defScope s_ledger) (by decide +kernel)) (fun _ _ _ _ _ => (dg_name 3 sc_ledger.nd)) (fun _ _ _ _ _ => dts_nil) (fun _ _ _ _ _ => (de_tup (di_cons (de_var 3) (di_cons (de_ix hu1 (de_ix hu1 (de_var 2) (de_var 3)) de_int) (di_cons (de_ix hu1 (de_ix hu1 (de_var 2) (de_var 3)) de_int) di_nil))))))))))) m_ledger
theorem fn_is_right {f : Addr} {fd : FuncData} (F : FnP K "is_right" s_is_right f fd) (c_ledger : Cal P w K mg base 4 "ledger" ["some_tree", "bound"] sp_ledger) : FnOk P w K mg base (L2.CX P w) 5 f fd ["some_tree", "bound", "rows"] (SpD K sp_is_right) :=
  fn_by (k := 4) F sc_is_right len_is_right t_is_right (fun cdv A outer s H E hr tk => by
    have hu : (cxOf (L2.CX P w) P w K mg base N_is_right "is_right" (defScope s_is_right) f cdv A outer s H E).A.units + 64 < cLine := room64 hr
    have hu1 := room1 hu
    have hu5 : (cxOf (L2.CX P w) P w K mg base N_is_right "is_right" (defScope s_is_right) f cdv A outer s H E).A.units + 65 < cLine := room65 hr
    exact (dss_one (ds_ret (de_cmp snd_eq (op_eq2 hu) (de_var 2) (de_calC c_ledger hr (by rfl) tk (da_cons (de_var 0) (da_cons (de_var 1) da_nil))) (nomark _))))) m_is_right
theorem fn_law_cell {f : Addr} {fd : FuncData} (F : FnP K "_law_cell" s_law_cell f fd) (n_len : mg "len" = none) : FnOk P w K mg base (L2.CX P w) 1 f fd ["script", "k"] (SpD K sp_law_cell) :=
  fn_by (k := 0) F sc_law_cell len_law_cell t_law_cell (fun cdv A outer s H E hr tk => by
    have hu : (cxOf (L2.CX P w) P w K mg base N_law_cell "_law_cell" (defScope s_law_cell) f cdv A outer s H E).A.units + 64 < cLine := room64 hr
    have hu1 := room1 hu
    have hu5 : (cxOf (L2.CX P w) P w K mg base N_law_cell "_law_cell" (defScope s_law_cell) f cdv A outer s H E).A.units + 65 < cLine := room65 hr
    exact (dss_cons (ds_if (dt_cmp snd_lt op_lt2 (de_var 1) (de_cb snd_len cr_len (by rfl) n_len bt_len (da_cons (de_var 0) da_nil)) (nomark _)) (dss_one (ds_ret (de_ix hu1 (de_var 0) (de_var 1)))) dss_nil)
  (dss_one (ds_ret de_int)))) m_law_cell
theorem fn_law_drawB {f : Addr} {fd : FuncData} (F : FnP K "_law_draw" s_law_drawB f fd) (c_law_cell : Cal P w K mg base 1 "_law_cell" ["script", "k"] sp_law_cell) (n_len : mg "len" = none) (n_range : mg "range" = none) : FnOk P w K mg base (L2.CX P w) 2 f fd ["script", "k", "sizes"] (SpD K sp_law_drawB) :=
  fn_by (k := 1) F sc_law_drawB len_law_drawB t_law_drawB (fun cdv A outer s H E hr tk => by
    have hu : (cxOf (L2.CX P w) P w K mg base N_law_drawB "_law_draw" (defScope s_law_drawB) f cdv A outer s H E).A.units + 64 < cLine := room64 hr
    have hu1 := room1 hu
    have hu5 : (cxOf (L2.CX P w) P w K mg base N_law_drawB "_law_draw" (defScope s_law_drawB) f cdv A outer s H E).A.units + 65 < cLine := room65 hr
    exact (dss_cons (ds_set 3 (de_calC c_law_cell hr (by rfl) tk (da_cons (de_var 0) (da_cons (de_var 1) da_nil))) sc_law_drawB.nd)
  (dss_cons (ds_if (dt_cmp snd_lt op_lt2 (de_var 3) de_int (nomark _)) (dss_one (ds_set 3 (de_neg (de_var 3)) sc_law_drawB.nd)) dss_nil)
  (dss_cons (ds_set 4 (de_lst di_nil) sc_law_drawB.nd)
  (dss_cons (ds_if (dt_cmp snd_ge op_ge (de_var 3) (de_pow de_int de_int) (nomark _)) (dss_cons (ds_set 3 (de_sub (de_var 3) (de_pow de_int de_int)) sc_law_drawB.nd)
  (dss_cons (ds_forget [0, 1, 5, 6, 7] (ds_for [0, 1, 2, 5, 6, 7] (passes_of rfl) rfl (it_seq (de_var 2)) (dg_name 5 sc_law_drawB.nd) (dss_cons (ds_app 4 (de_mod (de_var 3) (de_var 5)))
  (dss_one (ds_set 3 (de_div (de_var 3) (de_var 5)) sc_law_drawB.nd)))))
  (dss_one (ds_ret (de_var 4))))) dss_nil)
  (dss_cons (ds_set 6 (de_mod (de_add (de_add (de_var 3) de_int) (de_mul de_int (de_var 1))) de_int) sc_law_drawB.nd)
  (dss_cons (ds_forget [0, 1, 3, 5, 7] (ds_for [0, 1, 3, 5, 7] (passes_of rfl) rfl (it_range1 (by rfl) n_range (da_cons (de_cb snd_len cr_len (by rfl) n_len bt_len (da_cons (de_var 2) da_nil)) da_nil)) (dg_name 7 sc_law_drawB.nd) (dss_cons (ds_set 6 (de_mod (de_add (de_add (de_mul (de_var 6) de_int) de_int) (de_var 7)) de_int) sc_law_drawB.nd)
  (dss_cons (ds_set 6 (de_mod (de_add (de_mul (de_var 6) de_int) de_int) de_int) sc_law_drawB.nd)
  (dss_one (ds_app 4 (de_mod (de_div (de_var 6) de_int) (de_ix hu1 (de_var 2) (de_var 7)))))))))
  (dss_one (ds_ret (de_var 4)))))))))) m_law_drawB
theorem fn_law_treeB {f : Addr} {fd : FuncData} (F : FnP K "_law_tree" s_law_treeB f fd) (c_law_drawB : Cal P w K mg base 2 "_law_draw" ["script", "k", "sizes"] sp_law_drawB) (n_range : mg "range" = none) (n_sorted : mg "sorted" = none) (n_tuple : mg "tuple" = none) : FnOk P w K mg base (L2.CX P w) 3 f fd ["script", "k", "most"] (SpD K sp_law_treeB) :=
  fn_by (k := 2) F sc_law_treeB len_law_treeB t_law_treeB (fun cdv A outer s H E hr tk => by
    have hu : (cxOf (L2.CX P w) P w K mg base N_law_treeB "_law_tree" (defScope s_law_treeB) f cdv A outer s H E).A.units + 64 < cLine := room64 hr
    have hu1 := room1 hu
    have hu5 : (cxOf (L2.CX P w) P w K mg base N_law_treeB "_law_tree" (defScope s_law_treeB) f cdv A outer s H E).A.units + 65 < cLine := room65 hr
    exact (dss_cons (ds_set 3 (de_calC c_law_drawB hr (by rfl) tk (da_cons (de_var 0) (da_cons (de_var 1) (da_cons (de_add (de_lst (di_cons (de_var 2) (di_cons de_int (di_cons de_int di_nil)))) (de_rep (de_lst (di_cons de_int (di_cons de_int (di_cons de_int di_nil)))) de_int)) da_nil)))) sc_law_treeB.nd)
  (dss_cons (ds_set 4 (de_lst (di_cons de_str (di_cons de_str (di_cons de_str (di_cons de_str (di_cons de_str (di_cons de_str (di_cons de_str (di_cons de_str (di_cons de_str (di_cons de_str (di_cons de_str (di_cons de_str di_nil))))))))))))) sc_law_treeB.nd)
  (dss_cons (ds_set 5 (de_add de_int (de_ix hu1 (de_var 3) de_int)) sc_law_treeB.nd)
  (dss_cons (ds_set 6 (de_lst di_nil) sc_law_treeB.nd)
  (dss_cons (ds_set 7 (de_lst di_nil) sc_law_treeB.nd)
  (dss_cons (ds_forget [0, 1, 2, 8, 9, 10, 11, 12, 13] (ds_for [0, 1, 2, 5, 8, 9, 10, 11, 12, 13] (passes_of rfl) rfl (it_range1 (by rfl) n_range (da_cons (de_var 5) da_nil)) (dg_name 8 sc_law_treeB.nd) (dss_cons (ds_set 9 (de_ix hu1 (de_lst (di_cons (de_ix hu1 (de_var 3) (de_add de_int (de_mul de_int (de_var 8)))) (di_cons de_int (di_cons (de_mul (de_ix hu1 (de_var 3) (de_add de_int (de_mul de_int (de_var 8)))) de_int) (di_cons de_int di_nil))))) (de_ix hu1 (de_var 3) de_int)) sc_law_treeB.nd)
  (dss_cons (ds_app 6 (de_tup (di_cons (de_ix hu1 (de_var 4) (de_var 8)) (di_cons (de_var 9) di_nil))))
  (dss_one (ds_if (dt_cmp snd_gt op_gt (de_var 8) de_int (nomark _)) (dss_cons (ds_set 10 (de_mod (de_ix hu1 (de_var 3) (de_add de_int (de_mul de_int (de_var 8)))) (de_var 8)) sc_law_treeB.nd)
  (dss_cons (ds_if (dt_cmp snd_eq (op_eq2 hu) (de_ix hu1 (de_var 3) de_int) de_int (nomark _)) (dss_one (ds_set 10 (de_sub (de_var 8) de_int) sc_law_treeB.nd)) dss_nil)
  (dss_cons (ds_set 11 (de_add de_int (de_ix hu1 (de_var 3) (de_add de_int (de_mul de_int (de_var 8))))) sc_law_treeB.nd)
  (dss_cons (ds_asg (de_cb snd_sorted cr_sorted2 (by rfl) n_sorted bt_sorted (da_cons (de_lst (di_cons (de_ix hu1 (de_var 4) (de_var 8)) (di_cons (de_ix hu1 (de_var 4) (de_var 10)) di_nil))) da_nil)) (dg_tupL rfl (dgs_cons (dg_name 12 sc_law_treeB.nd) (dgs_cons (dg_name 13 sc_law_treeB.nd) dgs_nil))))
  (dss_one (ds_app 7 (de_tup (di_cons (de_var 12) (di_cons (de_var 13) (di_cons (de_var 11) di_nil)))))))))) dss_nil))))))
  (dss_one (ds_ret (de_tup (di_cons (de_ct snd_tuple call_tupleP (by rfl) n_tuple bt_tuple (da_cons (de_cb snd_sorted cr_sorted2 (by rfl) n_sorted bt_sorted (da_cons (de_var 6) da_nil)) da_nil)) (di_cons (de_ct snd_tuple call_tupleP (by rfl) n_tuple bt_tuple (da_cons (de_cb snd_sorted cr_sorted2 (by rfl) n_sorted bt_sorted (da_cons (de_var 7) da_nil)) da_nil)) di_nil)))))))))))) m_law_treeB
theorem fn_law_names {f : Addr} {fd : FuncData} (F : FnP K "_law_names" s_law_names f fd) : FnOk P w K mg base (L2.CX P w) 1 f fd ["tree"] (SpD K sp_law_names) :=
  fn_by (k := 0) F sc_law_names len_law_names t_law_names (fun cdv A outer s H E hr tk => by
    have hu : (cxOf (L2.CX P w) P w K mg base N_law_names "_law_names" (defScope s_law_names) f cdv A outer s H E).A.units + 64 < cLine := room64 hr
    have hu1 := room1 hu
    have hu5 : (cxOf (L2.CX P w) P w K mg base N_law_names "_law_names" (defScope s_law_names) f cdv A outer s H E).A.units + 65 < cLine := room65 hr
    exact (dss_one (ds_ret (de_lc [("name", 1), ("weight", 2)] rfl sc_law_names.nd (it_seq (de_ix hu1 (de_var 0) de_int)) (blkOk_by (N := N_law_names) (sc := defScope s_law_names) (by decide +kernel)) (fun _ _ _ _ _ => (dg_tup rfl (dgs_cons (dg_name 1 sc_law_names.nd) (dgs_cons (dg_name 2 sc_law_names.nd) dgs_nil)))) (fun _ _ _ _ _ => dts_nil) (fun _ _ _ _ _ => (de_var 1)))))) m_law_names
theorem fn_law_nearB {f : Addr} {fd : FuncData} (F : FnP K "_law_near" s_law_nearB f fd) (n_sorted : mg "sorted" = none) : FnOk P w K mg base (L2.CX P w) 1 f fd ["tree", "name"] (SpD K sp_law_nearB) :=
  fn_by (k := 0) F sc_law_nearB len_law_nearB t_law_nearB (fun cdv A outer s H E hr tk => by
    have hu : (cxOf (L2.CX P w) P w K mg base N_law_nearB "_law_near" (defScope s_law_nearB) f cdv A outer s H E).A.units + 64 < cLine := room64 hr
    have hu1 := room1 hu
    have hu5 : (cxOf (L2.CX P w) P w K mg base N_law_nearB "_law_near" (defScope s_law_nearB) f cdv A outer s H E).A.units + 65 < cLine := room65 hr
    exact (dss_cons (ds_set 2 (de_lst di_nil) sc_law_nearB.nd)
  (dss_cons (ds_forget [3, 4, 5] (ds_for [0, 3, 4, 5] (passes_of rfl) rfl (it_seq (de_ix hu1 (de_var 0) de_int)) (dg_tup rfl (dgs_cons (dg_name 3 sc_law_nearB.nd) (dgs_cons (dg_name 4 sc_law_nearB.nd) (dgs_cons (dg_name 5 sc_law_nearB.nd) dgs_nil)))) (dss_cons (ds_if (dt_cmp snd_eq (op_eq2 hu) (de_var 3) (de_var 1) (nomark _)) (dss_one (ds_app 2 (de_tup (di_cons (de_var 4) (di_cons (de_var 5) di_nil))))) dss_nil)
  (dss_one (ds_if (dt_cmp snd_eq (op_eq2 hu) (de_var 4) (de_var 1) (nomark _)) (dss_one (ds_app 2 (de_tup (di_cons (de_var 3) (di_cons (de_var 5) di_nil))))) dss_nil)))))
  (dss_one (ds_ret (de_cb snd_sorted cr_sorted2 (by rfl) n_sorted bt_sorted (da_cons (de_var 2) da_nil))))))) m_law_nearB
theorem fn_law_ways {f : Addr} {fd : FuncData} (F : FnP K "_law_ways" s_law_ways f fd) (c_law_nearB : Cal P w K mg base 1 "_law_near" ["tree", "name"] sp_law_nearB) (n_len : mg "len" = none) (n_range : mg "range" = none) : FnOk P w K mg base (L2.CX P w) 2 f fd ["tree", "start"] (SpLc K sp_law_ways) :=
  fn_byL (k := 1) F sc_law_ways len_law_ways t_law_ways (fun cdv A outer s H E hr tk => by
    have hu : (cxOf (L2.CX P w) P w K mg base N_law_ways "_law_ways" (defScope s_law_ways) f cdv A outer s H E).A.units + 64 < cLine := room64 hr
    have hu1 := room1 hu
    have hu5 : (cxOf (L2.CX P w) P w K mg base N_law_ways "_law_ways" (defScope s_law_ways) f cdv A outer s H E).A.units + 65 < cLine := room65 hr
    exact (dss_cons (ds_set 2 (de_disp (dps_cons (de_var 1) (de_lst (di_cons (de_var 1) di_nil)) dps_nil)) sc_law_ways.nd)
  (dss_cons (ds_set 3 (de_lst (di_cons (de_var 1) di_nil)) sc_law_ways.nd)
  (dss_cons (ds_forget [1, 4, 5, 6] (ds_for [1, 4, 5, 6] (passes_of rfl) rfl (it_range1 (by rfl) n_range (da_cons (de_cb snd_len cr_len (by rfl) n_len bt_len (da_cons (de_ix hu1 (de_var 0) de_int) da_nil)) da_nil)) (dg_name 4 sc_law_ways.nd) (dss_one (ds_if (dt_cmp snd_lt op_lt2 (de_var 4) (de_cb snd_len cr_len (by rfl) n_len bt_len (da_cons (de_var 3) da_nil)) (nomark _)) (dss_one (ds_forget [1, 5, 6] (ds_for [1, 5, 6] (passes_of rfl) rfl (it_seq (de_calC c_law_nearB hr (by rfl) tk (da_cons (de_var 0) (da_cons (de_ix hu1 (de_var 3) (de_var 4)) da_nil)))) (dg_tup rfl (dgs_cons (dg_name 5 sc_law_ways.nd) (dgs_cons (dg_name 6 sc_law_ways.nd) dgs_nil))) (dss_one (ds_if (dt_cmp (snd_in true) (op_notIn hu1) (de_var 5) (de_var 2) rfl) (dss_cons (ds_asg (de_add (de_ix hu1 (de_var 2) (de_ix hu1 (de_var 3) (de_var 4))) (de_lst (di_cons (de_var 5) di_nil))) (dg_sub 2 hu1 (de_var 5)))
  (dss_one (ds_set 3 (de_add (de_var 3) (de_lst (di_cons (de_var 5) di_nil))) sc_law_ways.nd))) dss_nil))))) dss_nil))))
  (dss_one (ds_retL (de_var 2))))))) m_law_ways
theorem fn_law_ledger {f : Addr} {fd : FuncData} (F : FnP K "_law_ledger" s_law_ledger f fd) (c_law_names : Cal P w K mg base 1 "_law_names" ["tree"] sp_law_names) (c_law_nearB : Cal P w K mg base 1 "_law_near" ["tree", "name"] sp_law_nearB) (c_law_ways : CalL P w K mg base 2 "_law_ways" ["tree", "start"] sp_law_ways) (n_dict : mg "dict" = none) (n_len : mg "len" = none) (n_max : mg "max" = none) (n_min : mg "min" = none) (n_range : mg "range" = none) (n_sorted : mg "sorted" = none) (n_sum : mg "sum" = none) : FnOk P w K mg base (L2.CX P w) 3 f fd ["tree", "bound"] (SpD K sp_law_ledger) :=
  fn_by (k := 2) F sc_law_ledger len_law_ledger t_law_ledger (fun cdv A outer s H E hr tk => by
    have hu : (cxOf (L2.CX P w) P w K mg base N_law_ledger "_law_ledger" (defScope s_law_ledger) f cdv A outer s H E).A.units + 64 < cLine := room64 hr
    have hu1 := room1 hu
    have hu5 : (cxOf (L2.CX P w) P w K mg base N_law_ledger "_law_ledger" (defScope s_law_ledger) f cdv A outer s H E).A.units + 65 < cLine := room65 hr
    exact (dss_cons (ds_set 2 (de_ix hu1 (de_calC c_law_names hr (by rfl) tk (da_cons (de_var 0) da_nil)) de_int) sc_law_ledger.nd)
  (dss_cons (ds_set 3 (de_callL c_law_ways hr (by rfl) tk (da_cons (de_var 0) (da_cons (de_var 2) da_nil))) sc_law_ledger.nd)
  (dss_cons (ds_set 4 de_dicN sc_law_ledger.nd)
  (dss_cons (ds_set 5 (de_lst di_nil) sc_law_ledger.nd)
  (dss_cons (ds_forget [2, 6, 7, 8, 9, 10, 11, 12, 13, 14] (ds_for [2, 6, 7, 8, 9, 10, 11, 12, 13, 14] (passes_of rfl) rfl (it_range3 (by rfl) n_range (da_cons (de_cb snd_len cr_len (by rfl) n_len bt_len (da_cons (de_ix hu1 (de_var 0) de_int) da_nil)) (da_cons de_int (da_cons (de_neg de_int) da_nil)))) (dg_name 6 sc_law_ledger.nd) (dss_one (ds_forget [2, 7, 8, 9, 10, 11, 12, 13, 14] (ds_for [2, 7, 8, 9, 10, 11, 12, 13, 14] (passes_of rfl) rfl (it_seq (de_calC c_law_names hr (by rfl) tk (da_cons (de_var 0) da_nil))) (dg_name 7 sc_law_ledger.nd) (dss_one (ds_if (dt_cmp snd_eq (op_eq2 hu) (de_cb snd_len cr_len (by rfl) n_len bt_len (da_cons (de_ix hu1 (de_var 3) (de_var 7)) da_nil)) (de_var 6) (nomark _)) (dss_cons (ds_set 8 (de_ix hu1 (de_ct snd_dict (call_dict rfl) (by rfl) n_dict bt_dict (da_cons (de_ix hu1 (de_var 0) de_int) da_nil)) (de_var 7)) sc_law_ledger.nd)
  (dss_cons (ds_if (dt_cmp snd_gt op_gt (de_var 8) (de_var 1) (nomark _)) (dss_one (ds_ret de_non)) dss_nil)
  (dss_cons (ds_setLc (i := 9) [("other", 14), ("length", 15)] rfl sc_law_ledger.nd (it_seq (de_calC c_law_nearB hr (by rfl) tk (da_cons (de_var 0) (da_cons (de_var 7) da_nil)))) (blkOk_by (N := N_law_ledger) (sc := defScope s_law_ledger) (by decide +kernel)) (fun _ _ _ _ _ => (dg_tup rfl (dgs_cons (dg_name 14 sc_law_ledger.nd) (dgs_cons (dg_name 15 sc_law_ledger.nd) dgs_nil)))) (fun _ _ _ _ _ => (dts_one (dt_cmp snd_gt op_gt (de_cb snd_len cr_len (by rfl) n_len bt_len (da_cons (de_ix hu1 (de_var 3) (de_var 14)) da_nil)) (de_var 6) (nomark _)))) (fun _ _ _ _ _ => (de_var 14)) (sw_true rfl rfl rfl (by decide +kernel)))
  (dss_cons (ds_frz 9 (ds_set 10 (de_cb snd_sum (cr_sum rfl) (by rfl) n_sum bt_sum (da_cons (de_lc [("other", 14)] rfl sc_law_ledger.nd (it_seq (de_var 9)) (blkOk_by (N := N_law_ledger) (sc := defScope s_law_ledger) (by decide +kernel)) (fun _ _ _ _ _ => (dg_name 14 sc_law_ledger.nd)) (fun _ _ _ _ _ => dts_nil) (fun _ _ _ _ _ => (de_ix hu1 (de_ix hu1 (de_var 4) (de_var 14)) de_int))) da_nil)) sc_law_ledger.nd))
  (dss_cons (ds_set 11 (de_add (de_var 8) (de_cb snd_sum (cr_sum rfl) (by rfl) n_sum bt_sum (da_cons (de_lc [("other", 14)] rfl sc_law_ledger.nd (it_seq (de_var 9)) (blkOk_by (N := N_law_ledger) (sc := defScope s_law_ledger) (by decide +kernel)) (fun _ _ _ _ _ => (dg_name 14 sc_law_ledger.nd)) (fun _ _ _ _ _ => dts_nil) (fun _ _ _ _ _ => (de_ix hu1 (de_ix hu1 (de_var 4) (de_var 14)) de_int))) da_nil))) sc_law_ledger.nd)
  (dss_cons (ds_forget [2, 8, 12, 13, 14] (ds_for [2, 8, 12, 13, 14] (passes_of rfl) rfl (it_range1 (by rfl) n_range (da_cons (de_cb snd_len cr_len (by rfl) n_len bt_len (da_cons (de_var 9) da_nil)) da_nil)) (dg_name 12 sc_law_ledger.nd) (dss_one (ds_if (dt_cmp snd_gt op_gt (de_var 11) (de_var 1) (nomark _)) (dss_cons (ds_frz 9 (ds_set 13 (de_cb (snd_best gtP) (cr_maxL rfl hu) (by rfl) n_max bt_max (da_cons (de_lc [("other", 14)] rfl sc_law_ledger.nd (it_seq (de_var 9)) (blkOk_by (N := N_law_ledger) (sc := defScope s_law_ledger) (by decide +kernel)) (fun _ _ _ _ _ => (dg_name 14 sc_law_ledger.nd)) (fun _ _ _ _ _ => dts_nil) (fun _ _ _ _ _ => (de_ix hu1 (de_ix hu1 (de_var 4) (de_var 14)) de_int))) da_nil)) sc_law_ledger.nd))
  (dss_cons (ds_set 14 (de_ix hu1 (de_lc [("other", 14)] rfl sc_law_ledger.nd (it_seq (de_var 9)) (blkOk_by (N := N_law_ledger) (sc := defScope s_law_ledger) (by decide +kernel)) (fun _ _ _ _ _ => (dg_name 14 sc_law_ledger.nd)) (fun _ _ _ _ _ => (dts_one (dt_cmp snd_eq (op_eq2 hu) (de_ix hu1 (de_ix hu1 (de_var 4) (de_var 14)) de_int) (de_var 13) (nomark _)))) (fun _ _ _ _ _ => (de_var 14))) de_int) sc_law_ledger.nd)
  (dss_cons (ds_setLc (i := 9) [("rest", 16)] rfl sc_law_ledger.nd (it_seq (de_var 9)) (blkOk_by (N := N_law_ledger) (sc := defScope s_law_ledger) (by decide +kernel)) (fun _ _ _ _ _ => (dg_name 16 sc_law_ledger.nd)) (fun _ _ _ _ _ => (dts_one (dt_cmp snd_ne (op_ne2 hu) (de_var 16) (de_var 14) (nomark _)))) (fun _ _ _ _ _ => (de_var 16)) (sw_true rfl rfl rfl (by decide +kernel)))
  (dss_cons (ds_set 11 (de_sub (de_var 11) (de_var 13)) sc_law_ledger.nd)
  (dss_cons (ds_set 10 (de_add (de_var 10) de_int) sc_law_ledger.nd)
  (dss_one (ds_app 5 (de_tup (di_cons (de_cb snd_minX (call_minX rfl) (by rfl) n_min bt_min (da_cons (de_var 7) (da_cons (de_var 14) da_nil))) (di_cons (de_cb snd_maxX (call_maxX rfl) (by rfl) n_max bt_max (da_cons (de_var 7) (da_cons (de_var 14) da_nil))) di_nil)))))))))) dss_nil))))
  (dss_one (ds_asg (de_tup (di_cons (de_var 10) (di_cons (de_var 11) di_nil))) (dg_sub 4 hu1 (de_var 7)))))))))) dss_nil)))))))
  (dss_one (ds_ret (de_tupF (dif_cons (de_cb snd_sorted cr_sorted2 (by rfl) n_sorted bt_sorted (da_cons (de_var 5) da_nil)) (dif_cons (de_lc [("name", 7)] rfl sc_law_ledger.nd (it_seq (de_cb snd_sortDc (cr_sortDc rfl) (by rfl) n_sorted bt_sorted (da_cons (de_var 4) da_nil))) (blkOk_by (N := N_law_ledger) (sc := defScope s_law_ledger) (by decide +kernel)) (fun _ _ _ _ _ => (dg_name 7 sc_law_ledger.nd)) (fun _ _ _ _ _ => dts_nil) (fun _ _ _ _ _ => (de_add (de_tup (di_cons (de_var 7) di_nil)) (de_ix hu1 (de_var 4) (de_var 7))))) dif_nil))))))))))) m_law_ledger
theorem fn_law_bound {f : Addr} {fd : FuncData} (F : FnP K "_law_bound" s_law_bound f fd) (c_law_drawB : Cal P w K mg base 2 "_law_draw" ["script", "k", "sizes"] sp_law_drawB) (n_max : mg "max" = none) (n_sum : mg "sum" = none) : FnOk P w K mg base (L2.CX P w) 3 f fd ["script", "k", "tree"] (SpD K sp_law_bound) :=
  fn_by (k := 2) F sc_law_bound len_law_bound t_law_bound (fun cdv A outer s H E hr tk => by
    have hu : (cxOf (L2.CX P w) P w K mg base N_law_bound "_law_bound" (defScope s_law_bound) f cdv A outer s H E).A.units + 64 < cLine := room64 hr
    have hu1 := room1 hu
    have hu5 : (cxOf (L2.CX P w) P w K mg base N_law_bound "_law_bound" (defScope s_law_bound) f cdv A outer s H E).A.units + 65 < cLine := room65 hr
    exact (dss_cons (ds_set 3 (de_calC c_law_drawB hr (by rfl) tk (da_cons (de_var 0) (da_cons (de_var 1) (da_cons (de_lst (di_cons de_int (di_cons de_int (di_cons de_int di_nil)))) da_nil)))) sc_law_bound.nd)
  (dss_cons (ds_set 4 (de_cb snd_sum (cr_sum rfl) (by rfl) n_sum bt_sum (da_cons (de_lc [("name", 6), ("weight", 7)] rfl sc_law_bound.nd (it_seq (de_ix hu1 (de_var 2) de_int)) (blkOk_by (N := N_law_bound) (sc := defScope s_law_bound) (by decide +kernel)) (fun _ _ _ _ _ => (dg_tup rfl (dgs_cons (dg_name 6 sc_law_bound.nd) (dgs_cons (dg_name 7 sc_law_bound.nd) dgs_nil)))) (fun _ _ _ _ _ => dts_nil) (fun _ _ _ _ _ => (de_var 7))) da_nil)) sc_law_bound.nd)
  (dss_cons (ds_set 5 (de_cb (snd_best gtP) (cr_maxL rfl hu) (by rfl) n_max bt_max (da_cons (de_lc [("name", 6), ("weight", 7)] rfl sc_law_bound.nd (it_seq (de_ix hu1 (de_var 2) de_int)) (blkOk_by (N := N_law_bound) (sc := defScope s_law_bound) (by decide +kernel)) (fun _ _ _ _ _ => (dg_tup rfl (dgs_cons (dg_name 6 sc_law_bound.nd) (dgs_cons (dg_name 7 sc_law_bound.nd) dgs_nil)))) (fun _ _ _ _ _ => dts_nil) (fun _ _ _ _ _ => (de_var 7))) da_nil)) sc_law_bound.nd)
  (dss_one (ds_ret (de_ix hu1 (de_lst (di_cons (de_var 5) (di_cons (de_add (de_var 5) (de_ix hu1 (de_var 3) de_int)) (di_cons (de_cb snd_maxX (call_maxX rfl) (by rfl) n_max bt_max (da_cons de_int (da_cons (de_sub (de_var 5) de_int) da_nil))) (di_cons (de_var 4) (di_cons (de_div (de_var 4) de_int) (di_cons (de_ix hu1 (de_var 3) de_int) (di_cons (de_add (de_var 5) (de_ix hu1 (de_var 3) de_int)) (di_cons (de_add (de_var 5) (de_div (de_var 4) de_int)) di_nil))))))))) (de_ix hu1 (de_var 3) de_int)))))))) m_law_bound
theorem fn_law {f : Addr} {fd : FuncData} (F : FnP K "law" s_law f fd) (c_is_right : Cal P w K mg base 5 "is_right" ["some_tree", "bound", "rows"] sp_is_right) (c_law_drawB : Cal P w K mg base 2 "_law_draw" ["script", "k", "sizes"] sp_law_drawB) (c_law_treeB : Cal P w K mg base 3 "_law_tree" ["script", "k", "most"] sp_law_treeB) (c_law_ledger : Cal P w K mg base 3 "_law_ledger" ["tree", "bound"] sp_law_ledger) (c_law_bound : Cal P w K mg base 3 "_law_bound" ["script", "k", "tree"] sp_law_bound) (n_len : mg "len" = none) (n_max : mg "max" = none) (n_min : mg "min" = none) (n_range : mg "range" = none) : FnOk P w K mg base (L2.CX P w) 6 f fd ["script"] (SpD K sp_law) :=
  fn_by (k := 5) F sc_law len_law t_law (fun cdv A outer s H E hr tk => by
    have hu : (cxOf (L2.CX P w) P w K mg base N_law "law" (defScope s_law) f cdv A outer s H E).A.units + 64 < cLine := room64 hr
    have hu1 := room1 hu
    have hu5 : (cxOf (L2.CX P w) P w K mg base N_law "law" (defScope s_law) f cdv A outer s H E).A.units + 65 < cLine := room65 hr
    exact (dss_cons (ds_forget [1, 2, 3, 4, 5, 6, 7, 8, 9, 10, 11, 12] (ds_for [1, 2, 3, 4, 5, 6, 7, 8, 9, 10, 11, 12] (passes_of rfl) rfl (it_range1 (by rfl) n_range (da_cons (de_cb snd_minX (call_minX rfl) (by rfl) n_min bt_min (da_cons de_int (da_cons (de_cb snd_maxX (call_maxX rfl) (by rfl) n_max bt_max (da_cons de_int (da_cons (de_div (de_cb snd_len cr_len (by rfl) n_len bt_len (da_cons (de_var 0) da_nil)) de_int) da_nil))) da_nil))) da_nil)) (dg_name 1 sc_law.nd) (dss_cons (ds_set 2 (de_calC c_law_treeB hr (by rfl) tk (da_cons (de_var 0) (da_cons (de_mul de_int (de_var 1)) (da_cons de_int da_nil)))) sc_law.nd)
  (dss_cons (ds_set 3 (de_calC c_law_bound hr (by rfl) tk (da_cons (de_var 0) (da_cons (de_add (de_mul de_int (de_var 1)) de_int) (da_cons (de_var 2) da_nil)))) sc_law.nd)
  (dss_cons (ds_set 4 (de_calC c_law_ledger hr (by rfl) tk (da_cons (de_var 2) (da_cons (de_var 3) da_nil))) sc_law.nd)
  (dss_cons (ds_setLc (i := 5) [("name", 8), ("weight", 13)] rfl sc_law.nd (it_seq (de_ix hu1 (de_var 2) de_int)) (blkOk_by (N := N_law) (sc := defScope s_law) (by decide +kernel)) (fun _ _ _ _ _ => (dg_tup rfl (dgs_cons (dg_name 8 sc_law.nd) (dgs_cons (dg_name 13 sc_law.nd) dgs_nil)))) (fun _ _ _ _ _ => dts_nil) (fun _ _ _ _ _ => (de_tup (di_cons (de_var 8) (di_cons de_int (di_cons (de_var 13) di_nil))))) (sw_true rfl rfl rfl (by decide +kernel)))
  (dss_cons (ds_if (dt_cmp snd_notN op_notNB (de_var 4) de_non (nomark _)) (dss_one (ds_set 5 (de_ix hu1 (de_var 4) de_int) sc_law.nd)) dss_nil)
  (dss_cons (ds_set 6 (de_calC c_law_drawB hr (by rfl) tk (da_cons (de_var 0) (da_cons (de_add (de_mul de_int (de_var 1)) de_int) (da_cons (de_lst (di_cons de_int (di_cons de_int (di_cons de_int di_nil)))) da_nil)))) sc_law.nd)
  (dss_cons (ds_set 7 (de_mod (de_ix hu1 (de_var 6) de_int) (de_cb snd_len cr_len (by rfl) n_len bt_len (da_cons (de_var 5) da_nil))) sc_law.nd)
  (dss_cons (ds_asg (de_ix hu1 (de_var 5) (de_var 7)) (dg_tup rfl (dgs_cons (dg_name 8 sc_law.nd) (dgs_cons (dg_name 9 sc_law.nd) (dgs_cons (dg_name 10 sc_law.nd) dgs_nil)))))
  (dss_cons (ds_frz 5 (ds_set 11 (de_lst (di_cons (de_var 5) (di_cons (de_add (de_add (de_slice (de_var 5) do_none (do_some (de_var 7))) (de_lst (di_cons (de_tup (di_cons (de_var 8) (di_cons (de_sub (de_add (de_var 9) (de_ix hu1 (de_var 6) de_int)) de_int) (di_cons (de_var 10) di_nil)))) di_nil))) (de_slice (de_var 5) (do_some (de_add (de_var 7) de_int)) do_none)) di_nil))) sc_law.nd))
  (dss_cons (ds_set 11 (de_add (de_var 11) (de_lst (di_cons (de_add (de_add (de_slice (de_var 5) do_none (do_some (de_var 7))) (de_lst (di_cons (de_tup (di_cons (de_var 8) (di_cons (de_var 9) (di_cons (de_sub (de_add (de_var 10) (de_ix hu1 (de_var 6) de_int)) de_int) di_nil)))) di_nil))) (de_slice (de_var 5) (do_some (de_add (de_var 7) de_int)) do_none)) (di_cons (de_add (de_slice (de_var 5) do_none (do_some (de_var 7))) (de_slice (de_var 5) (do_some (de_add (de_var 7) de_int)) do_none)) di_nil)))) sc_law.nd)
  (dss_cons (ds_set 11 (de_add (de_var 11) (de_lst (di_cons (de_add (de_var 5) (de_slice (de_var 5) do_none (do_some de_int))) (di_cons (de_rev (de_var 5)) (di_cons (de_add (de_add (de_slice (de_var 5) do_none (do_some (de_var 7))) (de_lst (di_cons (de_tup (di_cons de_str (di_cons (de_var 9) (di_cons (de_var 10) di_nil)))) di_nil))) (de_slice (de_var 5) (do_some (de_add (de_var 7) de_int)) do_none)) di_nil))))) sc_law.nd)
  (dss_one (ds_frz 11 (ds_forget [1, 5, 6, 7, 8, 9, 10, 12] (ds_for [1, 5, 6, 7, 8, 9, 10, 11, 12] (passes_of rfl) rfl (it_seq (de_var 11)) (dg_name 12 sc_law.nd) (dss_one (ds_if (dt_cmp snd_ne (op_ne2 hu) (de_calC c_is_right hr (by rfl) tk (da_cons (de_var 2) (da_cons (de_var 3) (da_cons (de_var 12) da_nil)))) (de_and (de_cmp snd_notN op_notNB (de_var 4) de_non (nomark _)) (de_one (de_cmp snd_eq (op_eq2 hu) (de_var 12) (de_ix hu1 (de_var 4) de_int) (nomark _)))) (nomark _)) (dss_one (ds_ret de_bl)) dss_nil)))))))))))))))))))
  (dss_one (ds_ret de_bl)))) m_law
end
/-! ### the head -/
def d_names_of : He.DefD := ⟨("names_of", none), "names_of", "names_of", defArgs s_names_of, defBody s_names_of, defScope s_names_of, [], []⟩
def d_weight_of : He.DefD := ⟨("weight_of", none), "weight_of", "weight_of", defArgs s_weight_of, defBody s_weight_of, defScope s_weight_of, [], []⟩
def d_neighbors : He.DefD := ⟨("neighbors", none), "neighbors", "neighbors", defArgs s_neighbors, defBody s_neighbors, defScope s_neighbors, [], []⟩
def d_away_from : He.DefD := ⟨("away_from", none), "away_from", "away_from", defArgs s_away_from, defBody s_away_from, defScope s_away_from, [], []⟩
def d_settled : He.DefD := ⟨("_settled", none), "_settled", "_settled", defArgs s_settled, defBody s_settled, defScope s_settled, [], []⟩
def d_ledger : He.DefD := ⟨("ledger", none), "ledger", "ledger", defArgs s_ledger, defBody s_ledger, defScope s_ledger, [], []⟩
def d_is_right : He.DefD := ⟨("is_right", none), "is_right", "is_right", defArgs s_is_right, defBody s_is_right, defScope s_is_right, [], []⟩
def d_law_cell : He.DefD := ⟨("_law_cell", none), "_law_cell", "_law_cell", defArgs s_law_cell, defBody s_law_cell, defScope s_law_cell, [], []⟩
def d_law_drawB : He.DefD := ⟨("_law_draw", none), "_law_draw", "_law_draw", defArgs s_law_drawB, defBody s_law_drawB, defScope s_law_drawB, [], []⟩
def d_law_treeB : He.DefD := ⟨("_law_tree", none), "_law_tree", "_law_tree", defArgs s_law_treeB, defBody s_law_treeB, defScope s_law_treeB, [], []⟩
def d_law_names : He.DefD := ⟨("_law_names", none), "_law_names", "_law_names", defArgs s_law_names, defBody s_law_names, defScope s_law_names, [], []⟩
def d_law_nearB : He.DefD := ⟨("_law_near", none), "_law_near", "_law_near", defArgs s_law_nearB, defBody s_law_nearB, defScope s_law_nearB, [], []⟩
def d_law_ways : He.DefD := ⟨("_law_ways", none), "_law_ways", "_law_ways", defArgs s_law_ways, defBody s_law_ways, defScope s_law_ways, [], []⟩
def d_law_ledger : He.DefD := ⟨("_law_ledger", none), "_law_ledger", "_law_ledger", defArgs s_law_ledger, defBody s_law_ledger, defScope s_law_ledger, [], []⟩
def d_law_bound : He.DefD := ⟨("_law_bound", none), "_law_bound", "_law_bound", defArgs s_law_bound, defBody s_law_bound, defScope s_law_bound, [], []⟩
def d_law : He.DefD := ⟨("law", none), "law", "law", defArgs s_law, defBody s_law, defScope s_law, [], []⟩
def fn0 : List He.DefD := [d_names_of, d_weight_of, d_neighbors, d_away_from, d_settled, d_ledger, d_is_right, d_law_cell, d_law_drawB, d_law_treeB, d_law_names, d_law_nearB, d_law_ways, d_law_ledger, d_law_bound, d_law]
def fn : List He.DefD := fn0
def fa0 : List He.Fa := [.glo "names_of", .glo "weight_of", .glo "neighbors", .glo "away_from", .glo "_settled", .glo "ledger", .glo "is_right", .glo "_law_cell", .glo "_law_draw", .glo "_law_tree", .glo "_law_names", .glo "_law_near", .glo "_law_ways", .glo "_law_ledger", .glo "_law_bound", .glo "law", .free "dict", .free "len", .free "list", .free "max", .free "min", .free "range", .free "reversed", .free "sorted", .free "sum", .free "tuple"]
def fa : List He.Fa := fa0
def fx : List Fx := []
def loose : List Str := ["names_of", "weight_of", "neighbors", "away_from", "_settled", "ledger", "is_right", "_law_cell", "_law_draw", "_law_tree", "_law_names", "_law_near", "_law_ways", "_law_ledger", "_law_bound"]
abbrev R : PySem.W.OpenRow := PySem.W.OpenLaw.row PySem.Challenge.rw_treeserved_k63_ledgers_judged
abbrev hk : PySem.W.Hook := hookX 4 fa fn fx
def ob (s : PySem.W.SharedT) : He.AlD × Bool := obX 4 fa fn fx (HandSHeadRun.getT s)
theorem ob_eq (s : PySem.W.SharedT) : ob s = hk.obs s.abs := obX_eq (HandSHeadRun.getT_eq s)
theorem run (w : World) : HandSHeadRun.RunEq R (PySem.W.view R.prog [18]) hk ob 4000 loose w := by
  intro os
  kernel_rfl
theorem facts {P : Program} {w : World} {K : PySem.W.Frag} {h : Heap} {mg : Str → Option Value} {f : Addr} (X : K.In h) (G : h.Ns mainGlobals mg) (hfa : mg ("law" : Str) = some (.ref f)) (c : He.SaysD fa fn K) (cx : (fx.all fun f => f K) = true) :
    ∃ fd : FuncData, (∀ (s : Shared) (v : Value), BindsTo s fd ⟨[v], []⟩ [("script", v)]) ∧ ∀ base : Heap, K.In base → base.Ns mainGlobals mg → FnOk P w K mg base (L2.CX P w) 6 f fd ["script"] (SpD K sp_law) := by
  obtain ⟨fd_names_of, F_names_of⟩ := c.def_ 0 (d := d_names_of) rfl
  obtain ⟨fd_weight_of, F_weight_of⟩ := c.def_ 1 (d := d_weight_of) rfl
  obtain ⟨fd_neighbors, F_neighbors⟩ := c.def_ 2 (d := d_neighbors) rfl
  obtain ⟨fd_away_from, F_away_from⟩ := c.def_ 3 (d := d_away_from) rfl
  obtain ⟨fd_settled, F_settled⟩ := c.def_ 4 (d := d_settled) rfl
  obtain ⟨fd_ledger, F_ledger⟩ := c.def_ 5 (d := d_ledger) rfl
  obtain ⟨fd_is_right, F_is_right⟩ := c.def_ 6 (d := d_is_right) rfl
  obtain ⟨fd_law_cell, F_law_cell⟩ := c.def_ 7 (d := d_law_cell) rfl
  obtain ⟨fd_law_drawB, F_law_drawB⟩ := c.def_ 8 (d := d_law_drawB) rfl
  obtain ⟨fd_law_treeB, F_law_treeB⟩ := c.def_ 9 (d := d_law_treeB) rfl
  obtain ⟨fd_law_names, F_law_names⟩ := c.def_ 10 (d := d_law_names) rfl
  obtain ⟨fd_law_nearB, F_law_nearB⟩ := c.def_ 11 (d := d_law_nearB) rfl
  obtain ⟨fd_law_ways, F_law_ways⟩ := c.def_ 12 (d := d_law_ways) rfl
  obtain ⟨fd_law_ledger, F_law_ledger⟩ := c.def_ 13 (d := d_law_ledger) rfl
  obtain ⟨fd_law_bound, F_law_bound⟩ := c.def_ 14 (d := d_law_bound) rfl
  obtain ⟨fd_law, F_law⟩ := c.def_ 15 (d := d_law) rfl
  have g_names_of := He.glo_ok X G (c.fact 0 (f := .glo "names_of") rfl)
  have g_weight_of := He.glo_ok X G (c.fact 1 (f := .glo "weight_of") rfl)
  have g_neighbors := He.glo_ok X G (c.fact 2 (f := .glo "neighbors") rfl)
  have g_away_from := He.glo_ok X G (c.fact 3 (f := .glo "away_from") rfl)
  have g_settled := He.glo_ok X G (c.fact 4 (f := .glo "_settled") rfl)
  have g_ledger := He.glo_ok X G (c.fact 5 (f := .glo "ledger") rfl)
  have g_is_right := He.glo_ok X G (c.fact 6 (f := .glo "is_right") rfl)
  have g_law_cell := He.glo_ok X G (c.fact 7 (f := .glo "_law_cell") rfl)
  have g_law_drawB := He.glo_ok X G (c.fact 8 (f := .glo "_law_draw") rfl)
  have g_law_treeB := He.glo_ok X G (c.fact 9 (f := .glo "_law_tree") rfl)
  have g_law_names := He.glo_ok X G (c.fact 10 (f := .glo "_law_names") rfl)
  have g_law_nearB := He.glo_ok X G (c.fact 11 (f := .glo "_law_near") rfl)
  have g_law_ways := He.glo_ok X G (c.fact 12 (f := .glo "_law_ways") rfl)
  have g_law_ledger := He.glo_ok X G (c.fact 13 (f := .glo "_law_ledger") rfl)
  have g_law_bound := He.glo_ok X G (c.fact 14 (f := .glo "_law_bound") rfl)
  have n_dict := He.free_ok X G (c.fact 16 (f := .free "dict") rfl)
  have n_len := He.free_ok X G (c.fact 17 (f := .free "len") rfl)
  have n_list := He.free_ok X G (c.fact 18 (f := .free "list") rfl)
  have n_max := He.free_ok X G (c.fact 19 (f := .free "max") rfl)
  have n_min := He.free_ok X G (c.fact 20 (f := .free "min") rfl)
  have n_range := He.free_ok X G (c.fact 21 (f := .free "range") rfl)
  have n_reversed := He.free_ok X G (c.fact 22 (f := .free "reversed") rfl)
  have n_sorted := He.free_ok X G (c.fact 23 (f := .free "sorted") rfl)
  have n_sum := He.free_ok X G (c.fact 24 (f := .free "sum") rfl)
  have n_tuple := He.free_ok X G (c.fact 25 (f := .free "tuple") rfl)
  have e := hfa.symm.trans (He.glo_ok X G (c.fact 15 (f := .glo "law") rfl))
  cases e
  have b := FunD.bindsA (ps := ["script"]) F_law fun _ _ _ _ _ _ us hl => match us, hl with | [_], _ => rfl
  refine ⟨fd_law, fun s v => b s [v] rfl, fun base _ _ => ?_⟩
  have c_names_of : Cal P w K mg base 1 "names_of" ["some_tree"] sp_names_of := cal_of F_names_of.kp g_names_of (F_names_of.bindsN fun _ _ _ _ _ _ us hl => match us, hl with | [_], _ => rfl) (fn_names_of F_names_of )
  have c_weight_of : Cal P w K mg base 1 "weight_of" ["some_tree", "name"] sp_weight_of := cal_of F_weight_of.kp g_weight_of (F_weight_of.bindsN fun _ _ _ _ _ _ us hl => match us, hl with | [_, _], _ => rfl) (fn_weight_of F_weight_of n_dict)
  have c_neighbors : Cal P w K mg base 1 "neighbors" ["some_tree", "name"] sp_neighbors := cal_of F_neighbors.kp g_neighbors (F_neighbors.bindsN fun _ _ _ _ _ _ us hl => match us, hl with | [_, _], _ => rfl) (fn_neighbors F_neighbors n_sorted)
  have c_law_cell : Cal P w K mg base 1 "_law_cell" ["script", "k"] sp_law_cell := cal_of F_law_cell.kp g_law_cell (F_law_cell.bindsN fun _ _ _ _ _ _ us hl => match us, hl with | [_, _], _ => rfl) (fn_law_cell F_law_cell n_len)
  have c_law_names : Cal P w K mg base 1 "_law_names" ["tree"] sp_law_names := cal_of F_law_names.kp g_law_names (F_law_names.bindsN fun _ _ _ _ _ _ us hl => match us, hl with | [_], _ => rfl) (fn_law_names F_law_names )
  have c_law_nearB : Cal P w K mg base 1 "_law_near" ["tree", "name"] sp_law_nearB := cal_of F_law_nearB.kp g_law_nearB (F_law_nearB.bindsN fun _ _ _ _ _ _ us hl => match us, hl with | [_, _], _ => rfl) (fn_law_nearB F_law_nearB n_sorted)
  have c_away_from : CalL P w K mg base 2 "away_from" ["some_tree", "start"] sp_away_from := calL_of F_away_from.kp g_away_from (F_away_from.bindsN fun _ _ _ _ _ _ us hl => match us, hl with | [_, _], _ => rfl) (fn_away_from F_away_from c_neighbors)
  have c_law_drawB : Cal P w K mg base 2 "_law_draw" ["script", "k", "sizes"] sp_law_drawB := cal_of F_law_drawB.kp g_law_drawB (F_law_drawB.bindsN fun _ _ _ _ _ _ us hl => match us, hl with | [_, _, _], _ => rfl) (fn_law_drawB F_law_drawB c_law_cell n_len n_range)
  have c_law_ways : CalL P w K mg base 2 "_law_ways" ["tree", "start"] sp_law_ways := calL_of F_law_ways.kp g_law_ways (F_law_ways.bindsN fun _ _ _ _ _ _ us hl => match us, hl with | [_, _], _ => rfl) (fn_law_ways F_law_ways c_law_nearB n_len n_range)
  have c_settled : CalL P w K mg base 3 "_settled" ["some_tree", "bound"] sp_settled := calL_of F_settled.kp g_settled (F_settled.bindsN fun _ _ _ _ _ _ us hl => match us, hl with | [_, _], _ => rfl) (fn_settled F_settled c_names_of c_weight_of c_away_from n_len n_list n_reversed n_sorted n_sum)
  have c_law_treeB : Cal P w K mg base 3 "_law_tree" ["script", "k", "most"] sp_law_treeB := cal_of F_law_treeB.kp g_law_treeB (F_law_treeB.bindsN fun _ _ _ _ _ _ us hl => match us, hl with | [_, _, _], _ => rfl) (fn_law_treeB F_law_treeB c_law_drawB n_range n_sorted n_tuple)
  have c_law_ledger : Cal P w K mg base 3 "_law_ledger" ["tree", "bound"] sp_law_ledger := cal_of F_law_ledger.kp g_law_ledger (F_law_ledger.bindsN fun _ _ _ _ _ _ us hl => match us, hl with | [_, _], _ => rfl) (fn_law_ledger F_law_ledger c_law_names c_law_nearB c_law_ways n_dict n_len n_max n_min n_range n_sorted n_sum)
  have c_law_bound : Cal P w K mg base 3 "_law_bound" ["script", "k", "tree"] sp_law_bound := cal_of F_law_bound.kp g_law_bound (F_law_bound.bindsN fun _ _ _ _ _ _ us hl => match us, hl with | [_, _, _], _ => rfl) (fn_law_bound F_law_bound c_law_drawB n_max n_sum)
  have c_ledger : Cal P w K mg base 4 "ledger" ["some_tree", "bound"] sp_ledger := cal_of F_ledger.kp g_ledger (F_ledger.bindsN fun _ _ _ _ _ _ us hl => match us, hl with | [_, _], _ => rfl) (fn_ledger F_ledger c_names_of c_settled)
  have c_is_right : Cal P w K mg base 5 "is_right" ["some_tree", "bound", "rows"] sp_is_right := cal_of F_is_right.kp g_is_right (F_is_right.bindsN fun _ _ _ _ _ _ us hl => match us, hl with | [_, _, _], _ => rfl) (fn_is_right F_is_right c_ledger)
  exact fn_law F_law c_is_right c_law_drawB c_law_treeB c_law_ledger c_law_bound n_len n_max n_min n_range
end K63

open PySem PySem.W PySem.Calls PyProof.Rows
theorem PySem.Challenge.cw_treeserved_k63_ledgers_judged_holds : PySem.Challenge.rw_treeserved_k63_ledgers_judged.Holds := by
  w_on; o_law
  refine HandSHeadRun.head_any (r := K63.R) (q := view K63.R.prog [18]) (H := K63.hk) (ob := K63.ob) (M := 4000) (loose := K63.loose) (d := HandSHeadRun.topDef K63.R.prog 18) (kwd := []) K63.ob_eq
    (by kernel_rfl) (fun s => by kernel_rfl) K63.run (by kernel_rfl) (by kernel_rfl) (by kernel_rfl) (by rfl) (by first | assumption | decide +kernel) (by decide +kernel) ⟨rfl, rfl, rfl, rfl, rfl, by decide +kernel⟩ ?hw ?hc
  case hw => w_witness2
  case hc =>
    refine DL.walk_dl (l := PySem.Challenge.rw_treeserved_k63_ledgers_judged) (n := 63) (k := 6) (x := "script") (sp := DL.sp_law) rfl (by decide) (by kernel_rfl) ⟨rfl, by decide, by decide⟩ (fun ns e q hn hq => ⟨ns, rfl, hn, hq⟩) ?F
    intro w mg fa h Y G hmg0
    obtain ⟨K, KX, c, cx⟩ := Y
    have hmg : mg ("law" : PySem.Str) = some (.ref fa) := by
      have e : (HandSHeadRun.topDef K63.R.prog 18).name = ("law" : PySem.Str) := by kernel_rfl
      rw [← e]
      exact hmg0
    obtain ⟨fd, hb, hF⟩ := K63.facts (P := PySem.Challenge.rw_treeserved_k63_ledgers_judged.prog) (w := w) KX G hmg c cx
    exact ⟨K, fd, KX, hb, hF⟩
