import PyProof.Rows.All
import Wide.All
import OpenK.AllK
import Wide.FinOn
import HandS.ForMost
import HandS.Deep
import HandS.IsInst
import HandS.Flow
import HandS.TupAny
import HandS.SortInts
import HandS.NoneIn
import HandS.Zip
import HandS.Conv
import KE.OsSort
import HandS.More
import KE.GoesMore
import PyProof.ReprRoads
import PyProof.ReprBulk
import PySem.Challenge.RW_heldnotes_k60_clamps_joined

set_option Elab.async false
set_option linter.all false
set_option maxRecDepth 100000
set_option maxHeartbeats 0
/-! U0: a heap of pure data (a view) and of owned objects; what is wanted, over these alone -/
namespace PW
open PySem PySem.Spec PyProof.Rows L2
/-! ### data that do not change -/
mutual
inductive Dq (K : PySem.W.Frag) (W : Hp) : L2.V → PyData → Prop
  | non : Dq K W .non .none
  | bl (b : Bool) : Dq K W (.bl b) (.bool b)
  | int (i : Int) : Dq K W (.int i) (.int i)
  | str (x : Str) : Dq K W (.str x) (.str x)
  | lst {a : Addr} {xs : List L2.V} {ds : List PyData} : W a = some (.lst xs) → DqL K W xs ds → Dq K W (.ref a) (.list ds)
  | tup {a : Addr} {xs : List L2.V} {ds : List PyData} : SqT K W a xs → DqL K W xs ds → Dq K W (.ref a) (.tuple ds)
inductive DqL (K : PySem.W.Frag) (W : Hp) : List L2.V → List PyData → Prop
  | nil : DqL K W [] []
  | cons {v : L2.V} {vs : List L2.V} {d : PyData} {ds : List PyData} : Dq K W v d → DqL K W vs ds → DqL K W (v :: vs) (d :: ds)
end
section
variable {K : PySem.W.Frag} {V V' H : Hp}
theorem same_seqT {a : Addr} {xs : List L2.V} (e : Same V V') (h : SqT K V a xs) : SqT K V' a xs := by
  rcases h with (h | ⟨o, h⟩) | h
  · exact .inl (.inl (e _ _ h))
  · exact .inl (.inr ⟨o, e _ _ h⟩)
  · exact .inr h
mutual
theorem Dq.mono (s : Same V V') : ∀ {d : PyData} {v : L2.V}, Dq K V v d → Dq K V' v d
  | .none, _, h => by cases h; exact .non
  | .bool b, _, h => by cases h; exact .bl b
  | .int i, _, h => by cases h; exact .int i
  | .str x, _, h => by cases h; exact .str x
  | .list ds, _, h => by
    cases h with
    | lst h1 h2 => exact .lst (s _ _ h1) (DqL.mono s h2)
  | .tuple ds, _, h => by
    cases h with
    | tup h1 h2 => exact .tup (same_seqT s h1) (DqL.mono s h2)
  | .dict _, _, h => by cases h
theorem DqL.mono (s : Same V V') : ∀ {ds : List PyData} {vs : List L2.V}, DqL K V vs ds → DqL K V' vs ds
  | [], _, h => by cases h; exact .nil
  | d :: ds, _, h => by
    cases h with
    | cons h1 h2 => exact .cons (Dq.mono s h1) (DqL.mono s h2)
end
mutual
theorem Dq.dp : ∀ {d : PyData} {v : L2.V}, Dq K V v d → Dp K V v d
  | .none, _, h => by cases h; exact .non
  | .bool b, _, h => by cases h; exact .bl b
  | .int i, _, h => by cases h; exact .int i
  | .str x, _, h => by cases h; exact .str x
  | .list ds, _, h => by
    cases h with
    | lst h1 h2 => exact .lst (.inl (.inl h1)) (DqL.dp h2)
  | .tuple ds, _, h => by
    cases h with
    | tup h1 h2 => exact .tup h1 (DqL.dp h2)
  | .dict _, _, h => by cases h
theorem DqL.dp : ∀ {ds : List PyData} {vs : List L2.V}, DqL K V vs ds → DpAll K V vs ds
  | [], _, h => by cases h; exact .nil
  | d :: ds, _, h => by
    cases h with
    | cons h1 h2 => exact .cons (Dq.dp h1) (DqL.dp h2)
end
theorem DqL.length : ∀ {ds : List PyData} {vs : List L2.V}, DqL K V vs ds → vs.length = ds.length
  | [], _, h => by cases h; rfl
  | d :: ds, _, h => by
    cases h with
    | cons h1 h2 => rw [List.length_cons, List.length_cons, DqL.length h2]
theorem DqL.get : ∀ {ds : List PyData} {vs : List L2.V} {i : Nat} {d : PyData}, DqL K V vs ds → ds[i]? = some d → ∃ v, vs[i]? = some v ∧ Dq K V v d
  | [], _, i, d, _, e => by simp at e
  | x :: ds, _, 0, d, h, e => by
    cases h with
    | cons h1 h2 => simp at e; subst e; exact ⟨_, rfl, h1⟩
  | x :: ds, _, i + 1, d, h, e => by
    cases h with
    | cons h1 h2 =>
      obtain ⟨v, e1, e2⟩ := DqL.get (i := i) h2 (by simpa using e)
      exact ⟨v, by simpa using e1, e2⟩
theorem DqL.get' {ds : List PyData} {vs : List L2.V} {i : Nat} {v : L2.V} (h : DqL K V vs ds) (e : vs[i]? = some v) : ∃ d, ds[i]? = some d ∧ Dq K V v d := by
  have hi : i < ds.length := by
    rw [← h.length]
    exact (List.getElem?_eq_some_iff.mp e).1
  obtain ⟨w, e1, e2⟩ := h.get (List.getElem?_eq_getElem hi)
  rw [e] at e1
  cases e1
  exact ⟨_, List.getElem?_eq_getElem hi, e2⟩
theorem DqL.append : ∀ {ds es : List PyData} {vs us : List L2.V}, DqL K V vs ds → DqL K V us es → DqL K V (vs ++ us) (ds ++ es)
  | [], _, _, _, h, g => by cases h; exact g
  | d :: ds, _, _, _, h, g => by
    cases h with
    | cons h1 h2 => exact .cons h1 (DqL.append h2 g)
theorem DqL.one {v : L2.V} {d : PyData} (h : Dq K V v d) : DqL K V [v] [d] := .cons h .nil
theorem DqL.drop : ∀ {ds : List PyData} {vs : List L2.V} (n : Nat), DqL K V vs ds → DqL K V (vs.drop n) (ds.drop n)
  | _, _, 0, h => h
  | [], _, n + 1, h => by cases h; exact .nil
  | d :: ds, _, n + 1, h => by
    cases h with
    | cons h1 h2 => exact DqL.drop n h2
theorem DqL.take : ∀ {ds : List PyData} {vs : List L2.V} (n : Nat), DqL K V vs ds → DqL K V (vs.take n) (ds.take n)
  | _, _, 0, h => .nil
  | [], _, n + 1, h => by cases h; exact .nil
  | d :: ds, _, n + 1, h => by
    cases h with
    | cons h1 h2 => exact .cons h1 (DqL.take n h2)
theorem DqL.set : ∀ {ds : List PyData} {vs : List L2.V} {v : L2.V} {d : PyData} (n : Nat), DqL K V vs ds → Dq K V v d → DqL K V (vs.set n v) (ds.set n d)
  | [], _, _, _, n, h, _ => by cases h; exact .nil
  | d :: ds, _, _, _, 0, h, g => by
    cases h with
    | cons h1 h2 => exact .cons g h2
  | d :: ds, _, _, _, n + 1, h, g => by
    cases h with
    | cons h1 h2 => exact .cons h1 (DqL.set n h2 g)
theorem DqL.ints : ∀ ns : List Int, DqL K V (ns.map L2.V.int) (ns.map PyData.int)
  | [] => .nil
  | n :: ns => .cons (.int n) (DqL.ints ns)
theorem DqL.strs : ∀ ns : List Str, DqL K V (ns.map L2.V.str) (ns.map PyData.str)
  | [] => .nil
  | n :: ns => .cons (.str n) (DqL.strs ns)
end

/-! ### values of slots, owned objects -/
/-- a value: pure data; the i-th owned object; a thing that a word tells (it does not change) -/
inductive DV where
  | d (x : PyData)
  | o (i : Nat)
  | x (ψ : Hp → L2.V → Prop)
inductive Ob where
  | dead
  | dr
  | lst (ds : List PyData)
  | dT (kvs : List (List Key × PyData))
  | dK (kvs : List (Key × PyData))
  | ext (φ : Hp → Hp → Addr → List Addr → Prop)
/-- the draws' list -/
def Draws (H : Hp) (d : Addr) : Prop := ∃ a b c : Int, H d = some (.lst [.int a, .int b, .int c])
def OwnAt (K : PySem.W.Frag) (V H : Hp) (a : Addr) (fs : List Addr) : Ob → Prop
  | .dead => fs = []
  | .dr => fs = [a] ∧ Draws H a
  | .lst ds => fs = [a] ∧ ∃ xs, H a = some (.lst xs) ∧ DqL K V xs ds
  | .dT kvs => fs = [a] ∧ ∃ ws, H a = some (.dT ws) ∧ ws.map (·.1) = kvs.map (·.1) ∧ DqL K V (ws.map (·.2)) (kvs.map (·.2))
  | .dK kvs => fs = [a] ∧ ∃ ws, H a = some (.dK ws) ∧ ws.map (·.1) = kvs.map (·.1) ∧ DqL K V (ws.map (·.2)) (kvs.map (·.2))
  | .ext φ => (∀ b ∈ fs, ∀ xs, H b ≠ some (.tup xs)) ∧ ∀ V' H', Same V V' → Same V' H' → (∀ b ∈ fs, H' b = H b) → φ V' H' a fs
abbrev Cell := Addr × List Addr × Ob
abbrev obs (S : List Cell) : List Ob := S.map (·.2.2)
/-- the entry of a def: its heap, the objects that it was handed, the view of it -/
structure Fr where
  H0 : Hp
  Fs : List (List Addr)
  V0 : Hp
abbrev Fr.F0 (R : Fr) : List Addr := R.Fs.flatten
def Fr.foot (R : Fr) (i : Nat) (b : Addr) : Prop := (∃ fs, R.Fs[i]? = some fs ∧ b ∈ fs) ∨ R.H0 b = none
theorem Fr.foot_or {R : Fr} {i : Nat} {b : Addr} (h : R.foot i b) : b ∈ R.F0 ∨ R.H0 b = none := by
  rcases h with ⟨fs, e, hb⟩ | h
  · exact .inl (List.mem_flatten.mpr ⟨fs, List.mem_of_getElem? e, hb⟩)
  · exact .inr h
structure Rep (K : PySem.W.Frag) (R : Fr) (S : List Cell) (V H : Hp) : Prop where
  v0 : Same R.V0 V
  vh : Same V H
  keep : ∀ b o, b ∉ R.F0 → R.H0 b = some o → H b = some o
  f0 : ∀ b ∈ R.F0, H b ≠ none
  vnew : ∀ b, V b ≠ none → R.V0 b ≠ none ∨ R.H0 b = none ∨ ∃ xs, V b = some (.tup xs)
  own : ∀ (i : Nat) (c : Cell), S[i]? = some c → OwnAt K V H c.1 c.2.1 c.2.2
  foot : ∀ (i : Nat) (c : Cell), S[i]? = some c → ∀ b ∈ c.2.1, V b = none ∧ H b ≠ none ∧ R.foot i b
  sep : ∀ (i j : Nat) (c c' : Cell), i ≠ j → S[i]? = some c → S[j]? = some c' → ∀ b ∈ c.2.1, b ∉ c'.2.1
structure Ext (S : List Cell) (V : Hp) (S' : List Cell) (V' : Hp) : Prop where
  v : Same V V'
  s : ∀ (i : Nat) (c : Cell), S[i]? = some c → ∃ c', S'[i]? = some c' ∧ c'.1 = c.1
def DVat (K : PySem.W.Frag) (S : List Cell) (V : Hp) (v : L2.V) : DV → Prop
  | .d x => Dq K V v x
  | .o i => ∃ c : Cell, S[i]? = some c ∧ v = .ref c.1
  | .x ψ => ∀ V', Same V V' → ψ V' v
abbrev DVs (K : PySem.W.Frag) (S : List Cell) (V : Hp) : List L2.V → List DV → Prop := Paired (DVat K S V)
abbrev PEnv := List (Option DV)
structure Slots (K : PySem.W.Frag) (S : List Cell) (V : Hp) (σ : L2.St) (Γ : PEnv) : Prop where
  len : σ.length = Γ.length
  at_ : ∀ (i : Nat) (dv : DV), Γ[i]? = some (some dv) → ∃ v, σ[i]? = some (some v) ∧ DVat K S V v dv
section
variable {K : PySem.W.Frag} {R : Fr} {S S' S2 : List Cell} {V V' V2 H H' : Hp}
theorem Ext.refl : Ext S V S V := ⟨Same.refl _, fun i c h => ⟨c, h, rfl⟩⟩
theorem Ext.trans (a : Ext S V S' V') (b : Ext S' V' S2 V2) : Ext S V S2 V2 := ⟨a.v.trans b.v, fun i c h => by
  obtain ⟨c', h', e⟩ := a.s i c h
  obtain ⟨c2, h2, e2⟩ := b.s i c' h'
  exact ⟨c2, h2, e2.trans e⟩⟩
theorem DVat.mono (e : Ext S V S' V') : ∀ {dv : DV} {v : L2.V}, DVat K S V v dv → DVat K S' V' v dv
  | .d x, v, h => Dq.mono e.v h
  | .o i, v, ⟨c, h, hv⟩ => by
    obtain ⟨c', h', e'⟩ := e.s i c h
    exact ⟨c', h', by rw [e']; exact hv⟩
  | .x ψ, v, h => fun V2 s => h V2 (e.v.trans s)
theorem DVs.mono (e : Ext S V S' V') {dvs : List DV} {vs : List L2.V} (h : DVs K S V vs dvs) : DVs K S' V' vs dvs := Paired.mapP h fun _ _ x => x.mono e
theorem Slots.mono (e : Ext S V S' V') {σ : L2.St} {Γ : PEnv} (h : Slots K S V σ Γ) : Slots K S' V' σ Γ := ⟨h.len, fun i dv x => by
  obtain ⟨v, h1, h2⟩ := h.at_ i dv x
  exact ⟨v, h1, h2.mono e⟩⟩
theorem Slots.set {σ : L2.St} {Γ : PEnv} (h : Slots K S V σ Γ) (i : Nat) {v : L2.V} {dv : DV} (x : DVat K S V v dv) : Slots K S V (σ.set i (some v)) (Γ.set i (some dv)) := by
  refine ⟨by rw [List.length_set, List.length_set]; exact h.len, fun j dw e => ?_⟩
  rw [List.getElem?_set] at e ⊢
  by_cases hj : i = j
  · subst hj
    rw [if_pos rfl] at e ⊢
    by_cases hl : i < Γ.length
    · rw [if_pos hl] at e
      rw [if_pos (by rw [h.len]; exact hl)]
      cases e
      exact ⟨v, rfl, x⟩
    · rw [if_neg hl] at e
      cases e
  · rw [if_neg hj] at e ⊢
    exact h.at_ j dw e
def wipeG (Γ : PEnv) : List Nat → PEnv
  | [] => Γ
  | v :: vs => (wipeG Γ vs).set v none
theorem Slots.wipe {σ : L2.St} {Γ : PEnv} (h : Slots K S V σ Γ) : ∀ vs : List Nat, Slots K S V (L2.wipe σ vs) (wipeG Γ vs)
  | [] => h
  | v :: vs => by
    have ih := Slots.wipe h vs
    refine ⟨by unfold L2.wipe wipeG; rw [List.length_set, List.length_set]; exact ih.len, fun j dw e => ?_⟩
    unfold wipeG at e
    unfold L2.wipe
    rw [List.getElem?_set] at e ⊢
    by_cases hj : v = j
    · subst hj
      rw [if_pos rfl] at e
      by_cases hl : v < (wipeG Γ vs).length
      · rw [if_pos hl] at e; cases e
      · rw [if_neg hl] at e; cases e
    · rw [if_neg hj] at e ⊢
      exact ih.at_ j dw e
theorem OwnAt.stay {a : Addr} {fs : List Addr} : ∀ {o : Ob}, OwnAt K V H a fs o → Same V V' → Same V' H' → (∀ b ∈ fs, H' b = H b) → OwnAt K V' H' a fs o
  | .dead, h, _, _, _ => h
  | .dr, ⟨h, x, y, z, e⟩, _, _, k => ⟨h, x, y, z, by rw [k a (by rw [h]; exact List.mem_singleton_self a)]; exact e⟩
  | .lst ds, ⟨h, xs, e, d⟩, s, _, k => ⟨h, xs, by rw [k a (by rw [h]; exact List.mem_singleton_self a)]; exact e, d.mono s⟩
  | .dT ds, ⟨h, xs, e, m, d⟩, s, _, k => ⟨h, xs, by rw [k a (by rw [h]; exact List.mem_singleton_self a)]; exact e, m, d.mono s⟩
  | .dK ds, ⟨h, xs, e, m, d⟩, s, _, k => ⟨h, xs, by rw [k a (by rw [h]; exact List.mem_singleton_self a)]; exact e, m, d.mono s⟩
  | .ext φ, h, s, s', k => ⟨fun b hb xs e => h.1 b hb xs (by rw [← k b hb]; exact e), fun V2 H2 t t' k' => h.2 V2 H2 (s.trans t) t' fun b hb => (k' b hb).trans (k b hb)⟩
/-- no tuple is owned -/
theorem OwnAt.notup {a : Addr} {fs : List Addr} : ∀ {o : Ob}, OwnAt K V H a fs o → ∀ b ∈ fs, ∀ xs, H b ≠ some (.tup xs)
  | .dead, h, b, hb, xs, e => by rw [show fs = [] from h] at hb; cases hb
  | .dr, ⟨h, x, y, z, e'⟩, b, hb, xs, e => by rw [h] at hb; rw [List.mem_singleton.mp hb, e'] at e; cases e
  | .lst ds, ⟨h, ys, e', _⟩, b, hb, xs, e => by rw [h] at hb; rw [List.mem_singleton.mp hb, e'] at e; cases e
  | .dT ds, ⟨h, ys, e', _⟩, b, hb, xs, e => by rw [h] at hb; rw [List.mem_singleton.mp hb, e'] at e; cases e
  | .dK ds, ⟨h, ys, e', _⟩, b, hb, xs, e => by rw [h] at hb; rw [List.mem_singleton.mp hb, e'] at e; cases e
  | .ext φ, h, b, hb, xs, e => h.1 b hb xs e
/-- a tracked address: untracked ones were so at the entry -/
theorem Rep.none0 (r : Rep K R S V H) {b : Addr} (h : H b = none) : R.H0 b = none := by
  cases q : R.H0 b with
  | none => rfl
  | some o =>
    by_cases hb : b ∈ R.F0
    · exact (r.f0 b hb h).elim
    · rw [r.keep b o hb q] at h; cases h
theorem Rep.vnone (r : Rep K R S V H) {b : Addr} (h : H b = none) : V b = none := Same.free r.vh h
/-- a new thing that will not change -/
theorem Rep.new (r : Rep K R S V H) {p : Addr} {o : HO} (hp : H p = none) : Rep K R S (upd V p o) (upd H p o) ∧ Ext S V S (upd V p o) := by
  have hv : V p = none := r.vnone hp
  have sv : Same V (upd V p o) := fun b u e => by rw [upd_ne (ne_of_none e hv)]; exact e
  have vh : Same (upd V p o) (upd H p o) := fun b u e => by
    by_cases hb : b = p
    · subst hb; rw [upd_same] at e ⊢; exact e
    · rw [upd_ne hb] at e ⊢; exact r.vh b u e
  refine ⟨⟨r.v0.trans sv, vh, fun b u hb e => ?_, fun b hb => ?_, fun b e => ?_, fun i c e => ?_, fun i c e b hb => ?_, r.sep⟩, ⟨sv, fun i c h => ⟨c, h, rfl⟩⟩⟩
  · have := r.keep b u hb e
    rw [upd_ne (ne_of_none this hp)]; exact this
  · have := r.f0 b hb
    rw [upd_ne (fun z => this (by rw [z]; exact hp))]; exact this
  · by_cases hb : b = p
    · subst hb; exact .inr (.inl (r.none0 hp))
    · rw [upd_ne hb] at e ⊢; exact r.vnew b e
  · refine (r.own i c e).stay sv vh fun b hb => ?_
    have := (r.foot i c e b hb).2.1
    rw [upd_ne (fun z => this (by rw [z]; exact hp))]
  · obtain ⟨h1, h2, h3⟩ := r.foot i c e b hb
    have n : b ≠ p := fun z => h2 (by rw [z]; exact hp)
    rw [upd_ne n, upd_ne n]
    exact ⟨h1, h2, h3⟩
/-- a new owned object at one address -/
theorem Rep.newOwn (r : Rep K R S V H) {p : Addr} {o : HO} {ob : Ob} (hp : H p = none) (ho : OwnAt K V (upd H p o) p [p] ob) : Rep K R (S ++ [(p, [p], ob)]) V (upd H p o) ∧ Ext S V (S ++ [(p, [p], ob)]) V := by
  have hv : V p = none := r.vnone hp
  have vh : Same V (upd H p o) := fun b u e => by rw [upd_ne (ne_of_none e hv)]; exact r.vh b u e
  have get : ∀ {i : Nat} {c : Cell}, (S ++ [(p, [p], ob)])[i]? = some c → S[i]? = some c ∨ (i = S.length ∧ c = (p, [p], ob)) := fun {i c} e => by
    by_cases hi : i < S.length
    · rw [List.getElem?_append_left hi] at e; exact .inl e
    · rw [List.getElem?_append_right (Nat.le_of_not_lt hi)] at e
      have h1 : i - S.length < 1 := by
        have := (List.getElem?_eq_some_iff.mp e).1
        simpa using this
      have h2 : i = S.length := by omega
      subst h2
      simp at e
      exact .inr ⟨rfl, e.symm⟩
  have keepH : ∀ b, H b ≠ none → upd H p o b = H b := fun b hb => upd_ne fun z => hb (by rw [z]; exact hp)
  refine ⟨⟨r.v0, vh, fun b u hb e => ?_, fun b hb => ?_, r.vnew, fun i c e => ?_, fun i c e b hb => ?_, fun i j c c' hij e e' b hb hb' => ?_⟩, ⟨Same.refl _, fun i c h => ⟨c, by rw [List.getElem?_append_left (List.getElem?_eq_some_iff.mp h).1]; exact h, rfl⟩⟩⟩
  · have := r.keep b u hb e
    rw [keepH b (by rw [this]; simp)]; exact this
  · rw [keepH b (r.f0 b hb)]; exact r.f0 b hb
  · rcases get e with e | ⟨_, rfl⟩
    · exact (r.own i c e).stay (Same.refl _) vh fun b hb => keepH b (r.foot i c e b hb).2.1
    · exact ho
  · rcases get e with e | ⟨_, rfl⟩
    · obtain ⟨h1, h2, h3⟩ := r.foot i c e b hb
      exact ⟨h1, by rw [keepH b h2]; exact h2, h3⟩
    · have hb' : b = p := List.mem_singleton.mp hb
      subst hb'
      exact ⟨hv, by rw [upd_same]; simp, .inr (r.none0 hp)⟩
  · rcases get e with h | ⟨hi, rfl⟩
    · rcases get e' with h' | ⟨hj, rfl⟩
      · exact r.sep i j c c' hij h h' b hb hb'
      · have q : b = p := List.mem_singleton.mp hb'
        exact (r.foot i c h b hb).2.1 (by rw [q]; exact hp)
    · rcases get e' with h' | ⟨hj, rfl⟩
      · have q : b = p := List.mem_singleton.mp hb
        exact (r.foot j c' h' b hb').2.1 (by rw [q]; exact hp)
      · exact hij (hi.trans hj.symm)
/-- an owned object of one address is changed -/
theorem Rep.put (r : Rep K R S V H) {i : Nat} {a : Addr} {ob ob' : Ob} {o : HO} (hi : S[i]? = some (a, [a], ob)) (ho : OwnAt K V (upd H a o) a [a] ob') : Rep K R (S.set i (a, [a], ob')) V (upd H a o) ∧ Ext S V (S.set i (a, [a], ob')) V := by
  obtain ⟨va, ha, fa⟩ := r.foot i _ hi a (List.mem_singleton_self a)
  have vh : Same V (upd H a o) := fun b u e => by rw [upd_ne (ne_of_none e va)]; exact r.vh b u e
  have get : ∀ {j : Nat} {c : Cell}, (S.set i (a, [a], ob'))[j]? = some c → (j ≠ i ∧ S[j]? = some c) ∨ (j = i ∧ c = (a, [a], ob')) := fun {j c} e => by
    rw [List.getElem?_set] at e
    by_cases hj : i = j
    · subst hj
      rw [if_pos rfl, if_pos (List.getElem?_eq_some_iff.mp hi).1] at e
      cases e; exact .inr ⟨rfl, rfl⟩
    · rw [if_neg hj] at e; exact .inl ⟨fun z => hj z.symm, e⟩
  refine ⟨⟨r.v0, vh, fun b u hb e => ?_, fun b hb => ?_, r.vnew, fun j c e => ?_, fun j c e b hb => ?_, fun j k c c' hjk e e' b hb hb' => ?_⟩, ⟨Same.refl _, fun j c h => ?_⟩⟩
  · have n : b ≠ a := fun z => by
      subst z
      rcases Fr.foot_or fa with f | f
      · exact hb f
      · rw [f] at e; cases e
    rw [upd_ne n]; exact r.keep b u hb e
  · by_cases n : b = a
    · subst n; rw [upd_same]; simp
    · rw [upd_ne n]; exact r.f0 b hb
  · rcases get e with ⟨hj, e⟩ | ⟨_, rfl⟩
    · exact (r.own j c e).stay (Same.refl _) vh fun b hb => upd_ne fun z => r.sep i j _ c (fun q => hj q.symm) hi e a (List.mem_singleton_self a) (by rw [← z]; exact hb)
    · exact ho
  · rcases get e with ⟨hj, e⟩ | ⟨hji, rfl⟩
    · obtain ⟨h1, h2, h3⟩ := r.foot j c e b hb
      refine ⟨h1, ?_, h3⟩
      by_cases n : b = a
      · subst n; rw [upd_same]; simp
      · rw [upd_ne n]; exact h2
    · rw [hji]
      have hb' : b = a := List.mem_singleton.mp hb
      subst hb'
      exact ⟨va, by rw [upd_same]; simp, fa⟩
  · rcases get e with ⟨hj, h⟩ | ⟨hj, rfl⟩
    · rcases get e' with ⟨hk, h'⟩ | ⟨hk, rfl⟩
      · exact r.sep j k c c' hjk h h' b hb hb'
      · have z : b = a := List.mem_singleton.mp hb'
        exact r.sep i j _ c (fun q => hj q.symm) hi h a (List.mem_singleton_self a) (by rw [← z]; exact hb)
    · rcases get e' with ⟨hk, h'⟩ | ⟨hk, rfl⟩
      · have z : b = a := List.mem_singleton.mp hb
        exact r.sep i k _ c' (fun q => hk q.symm) hi h' a (List.mem_singleton_self a) (by rw [← z]; exact hb')
      · exact hjk (hj.trans hk.symm)
  · by_cases hj : i = j
    · subst hj
      rw [hi] at h; cases h
      exact ⟨(a, [a], ob'), by rw [List.getElem?_set, if_pos rfl, if_pos (List.getElem?_eq_some_iff.mp hi).1], rfl⟩
    · exact ⟨c, by rw [List.getElem?_set, if_neg hj]; exact h, rfl⟩
/-- an owned object of one address is owned no more: it is looked at, and stays -/
theorem Rep.freeze (r : Rep K R S V H) {i : Nat} {a : Addr} {ob : Ob} {o : HO} (hi : S[i]? = some (a, [a], ob)) (hh : H a = some o) (h0 : R.H0 a = none) : Rep K R (S.set i (a, [], .dead)) (upd V a o) H ∧ Ext S V (S.set i (a, [], .dead)) (upd V a o) := by
  obtain ⟨va, ha, fa⟩ := r.foot i _ hi a (List.mem_singleton_self a)
  have sv : Same V (upd V a o) := fun b u e => by rw [upd_ne (ne_of_none e va)]; exact e
  have vh : Same (upd V a o) H := fun b u e => by
    by_cases n : b = a
    · subst n; rw [upd_same] at e; cases e; exact hh
    · rw [upd_ne n] at e; exact r.vh b u e
  have get : ∀ {j : Nat} {c : Cell}, (S.set i (a, [], .dead))[j]? = some c → (j ≠ i ∧ S[j]? = some c) ∨ (j = i ∧ c = (a, [], .dead)) := fun {j c} e => by
    rw [List.getElem?_set] at e
    by_cases hj : i = j
    · subst hj
      rw [if_pos rfl, if_pos (List.getElem?_eq_some_iff.mp hi).1] at e
      cases e; exact .inr ⟨rfl, rfl⟩
    · rw [if_neg hj] at e; exact .inl ⟨fun z => hj z.symm, e⟩
  refine ⟨⟨r.v0.trans sv, vh, r.keep, r.f0, fun b e => ?_, fun j c e => ?_, fun j c e b hb => ?_, fun j k c c' hjk e e' b hb hb' => ?_⟩, ⟨sv, fun j c h => ?_⟩⟩
  · by_cases n : b = a
    · subst n; exact .inr (.inl h0)
    · rw [upd_ne n] at e ⊢; exact r.vnew b e
  · rcases get e with ⟨hj, e⟩ | ⟨_, rfl⟩
    · exact (r.own j c e).stay sv vh fun b hb => rfl
    · rfl
  · rcases get e with ⟨hj, e⟩ | ⟨_, rfl⟩
    · obtain ⟨h1, h2, h3⟩ := r.foot j c e b hb
      have n : b ≠ a := fun z => r.sep i j _ c (fun q => hj q.symm) hi e a (List.mem_singleton_self a) (by rw [← z]; exact hb)
      exact ⟨by rw [upd_ne n]; exact h1, h2, h3⟩
    · cases hb
  · rcases get e with ⟨hj, e⟩ | ⟨hj, rfl⟩
    · rcases get e' with ⟨hk, e'⟩ | ⟨hk, rfl⟩
      · exact r.sep j k c c' hjk e e' b hb hb'
      · cases hb'
    · cases hb
  · by_cases hj : i = j
    · subst hj
      rw [hi] at h; cases h
      exact ⟨(a, [], .dead), by rw [List.getElem?_set, if_pos rfl, if_pos (List.getElem?_eq_some_iff.mp hi).1], rfl⟩
    · exact ⟨c, by rw [List.getElem?_set, if_neg hj]; exact h, rfl⟩
theorem obs_get {i : Nat} {o : Ob} (h : (obs S)[i]? = some o) : ∃ c : Cell, S[i]? = some c ∧ c.2.2 = o := by
  rw [List.getElem?_map] at h
  cases q : S[i]? with
  | none => rw [q] at h; cases h
  | some c => rw [q] at h; exact ⟨c, rfl, Option.some.inj h⟩
theorem obs_set {i : Nat} {c : Cell} : obs (S.set i c) = (obs S).set i c.2.2 := List.map_set
end
end PW

namespace PW
open PySem PySem.Spec PyProof.Rows L2
/-! ### the weakest readings -/
section
variable {X : Cx} {σ : L2.St} {H : Hp}
def wE (X : Cx) (e : Expr) : TE := fun σ H Q => ∀ pins s, Inv X pins σ H s → wpAny (model X.prog X.w) X.A (eval e X.env) (EP X pins σ Q) X.xe s
theorem wE_pe {e : Expr} : PE X e (wE X e) := ⟨fun pins s σ H Q I h => h pins s I⟩
theorem wE_of {e : Expr} {t : TE} {Q : VK} (h : PE X e t) (q : t σ H Q) : wE X e σ H Q := fun pins s I => h.run pins s σ H Q I q
theorem wE_mono {e : Expr} {Q Q' : VK} (h : wE X e σ H Q) (k : ∀ v H', Q v H' → Q' v H') : wE X e σ H Q' := fun pins s I => thn (h pins s I) fun u s' ⟨v, H', I', r, q⟩ => ⟨v, H', I', r, k v H' q⟩
def wT (X : Cx) (e : Expr) : TT := fun σ H Q => ∀ pins s, Inv X pins σ H s → wpAny (model X.prog X.w) X.A (isTrue e X.env (eval e X.env)) (TP X pins σ Q) X.xe s
theorem wT_pt {e : Expr} : PT X e (wT X e) := ⟨fun pins s σ H Q I h => h pins s I⟩
theorem wT_of {e : Expr} {t : TT} {Q : Bool → Hp → Prop} (h : PT X e t) (q : t σ H Q) : wT X e σ H Q := fun pins s I => h.run pins s σ H Q I q
theorem wT_mono {e : Expr} {Q Q' : Bool → Hp → Prop} (h : wT X e σ H Q) (k : ∀ v H', Q v H' → Q' v H') : wT X e σ H Q' := fun pins s I => thn (h pins s I) fun u s' ⟨H', I', q⟩ => ⟨H', I', k u H' q⟩
def wW (X : Cx) (e : Expr) : TT := fun σ H Q => ∀ whole pins s, Inv X pins σ H s → wpAny (model X.prog X.w) X.A (isTrue e X.env whole) (TP X pins σ Q) X.xe s
theorem wW_pw {e : Expr} : PW X e (wW X e) := ⟨fun wh pins s σ H Q I h => h wh pins s I⟩
theorem wW_of {e : Expr} {t : TT} {Q : Bool → Hp → Prop} (h : PW X e t) (q : t σ H Q) : wW X e σ H Q := fun wh pins s I => h.run wh pins s σ H Q I q
theorem wW_mono {e : Expr} {Q Q' : Bool → Hp → Prop} (h : wW X e σ H Q) (k : ∀ v H', Q v H' → Q' v H') : wW X e σ H Q' := fun wh pins s I => thn (h wh pins s I) fun u s' ⟨H', I', q⟩ => ⟨H', I', k u H' q⟩
def wA (X : Cx) (es : List Expr) : TA := fun σ H Q => ∀ pos pins s, Inv X pins σ H s → wpAny (model X.prog X.w) X.A (spliced (backTo pos (starEach es X.env))) (AP X pins σ Q) X.xe s
theorem wA_pa {es : List Expr} : PA X es (wA X es) := ⟨fun pos pins s σ H Q I h => h pos pins s I⟩
theorem wA_of {es : List Expr} {t : TA} {Q : List L2.V → Hp → Prop} (h : PA X es t) (q : t σ H Q) : wA X es σ H Q := fun pos pins s I => h.run pos pins s σ H Q I q
theorem wA_mono {es : List Expr} {Q Q' : List L2.V → Hp → Prop} (h : wA X es σ H Q) (k : ∀ v H', Q v H' → Q' v H') : wA X es σ H Q' := fun pos pins s I => thn (h pos pins s I) fun u s' ⟨v, H', I', r, q⟩ => ⟨v, H', I', r, k v H' q⟩
def wO (X : Cx) (f : Value → Value → Sem Value) : R2 := fun x y H Q => ∃ r, OpR X f r ∧ r x y H Q
theorem wO_op {f : Value → Value → Sem Value} : OpR X f (wO X f) := fun pins s σ H x y v u Q I rx ry ⟨r, hr, q⟩ => hr pins s σ H x y v u Q I rx ry q
def wX (X : Cx) : R2 := fun x y H Q => ∃ r, IxR X r ∧ r x y H Q
theorem wX_ix : IxR X (wX X) := fun value slice pins s σ H x y v u Q I rx ry ⟨r, hr, q⟩ => hr value slice pins s σ H x y v u Q I rx ry q
def wU (X : Cx) (f : Value → Sem Value) : L2.V → Hp → VK → Prop := fun x H Q => ∃ r, UnR X f r ∧ r x H Q
theorem wU_un {f : Value → Sem Value} : UnR X f (wU X f) := fun pins s σ H x v Q I rx ⟨r, hr, q⟩ => hr pins s σ H x v Q I rx q
def wC (X : Cx) (f : Value) : List L2.V → Hp → VK → Prop := fun xs H Q => ∃ r, CallR X f r ∧ r xs H Q
theorem wC_call {f : Value} : CallR X f (wC X f) := fun pins s σ H xs us Q I rx ⟨r, hr, q⟩ => hr pins s σ H xs us Q I rx q
def wM (X : Cx) (id : String) : L2.V → List L2.V → Hp → VK → Prop := fun x xs H Q => ∃ r, MtR X id r ∧ r x xs H Q
theorem wM_mt {id : String} : MtR X id (wM X id) := fun pins s σ H x xs v us Q I rx rs ⟨r, hr, q⟩ => hr pins s σ H x xs v us Q I rx rs q
end
/-! ### what holds behind -/
abbrev QE := DV → List Ob → Prop
abbrev PTE := PEnv → List Ob → QE → Prop
abbrev PTT := PEnv → List Ob → (Bool → List Ob → Prop) → Prop
abbrev PTA := PEnv → List Ob → (List DV → List Ob → Prop) → Prop
def PostE (K : PySem.W.Frag) (R : Fr) (S : List Cell) (V : Hp) (Q : QE) : VK := fun v H' => ∃ S' V' dv, Rep K R S' V' H' ∧ Ext S V S' V' ∧ DVat K S' V' v dv ∧ Q dv (obs S')
def PostT (K : PySem.W.Frag) (R : Fr) (S : List Cell) (V : Hp) (Q : Bool → List Ob → Prop) : Bool → Hp → Prop := fun b H' => ∃ S' V', Rep K R S' V' H' ∧ Ext S V S' V' ∧ Q b (obs S')
def PostA (K : PySem.W.Frag) (R : Fr) (S : List Cell) (V : Hp) (Q : List DV → List Ob → Prop) : List L2.V → Hp → Prop := fun vs H' => ∃ S' V' dvs, Rep K R S' V' H' ∧ Ext S V S' V' ∧ DVs K S' V' vs dvs ∧ Q dvs (obs S')
section
variable {K : PySem.W.Frag} {R : Fr} {S S' : List Cell} {V V' H : Hp} {Q : QE}
theorem PostE.ext {v : L2.V} (e : Ext S V S' V') (h : PostE K R S' V' Q v H) : PostE K R S V Q v H := by
  obtain ⟨S2, V2, dv, r, e2, d, q⟩ := h
  exact ⟨S2, V2, dv, r, e.trans e2, d, q⟩
theorem PostT.ext {b : Bool} {Q : Bool → List Ob → Prop} (e : Ext S V S' V') (h : PostT K R S' V' Q b H) : PostT K R S V Q b H := by
  obtain ⟨S2, V2, r, e2, q⟩ := h
  exact ⟨S2, V2, r, e.trans e2, q⟩
theorem PostA.ext {vs : List L2.V} {Q : List DV → List Ob → Prop} (e : Ext S V S' V') (h : PostA K R S' V' Q vs H) : PostA K R S V Q vs H := by
  obtain ⟨S2, V2, dv, r, e2, d, q⟩ := h
  exact ⟨S2, V2, dv, r, e.trans e2, d, q⟩
theorem PostE.here {v : L2.V} {dv : DV} (r : Rep K R S V H) (d : DVat K S V v dv) (q : Q dv (obs S)) : PostE K R S V Q v H := ⟨S, V, dv, r, Ext.refl, d, q⟩
theorem PostE.hd {v : L2.V} {x : PyData} (r : Rep K R S V H) (d : Dq K V v x) (q : Q (.d x) (obs S)) : PostE K R S V Q v H := ⟨S, V, .d x, r, Ext.refl, d, q⟩
/-- a new thing that does not change -/
theorem PostE.new {p : Addr} {o : HO} {x : PyData} (r : Rep K R S V H) (hp : H p = none) (d : Dq K (upd V p o) (.ref p) x) (q : Q (.d x) (obs S)) : PostE K R S V Q (.ref p) (upd H p o) := by
  obtain ⟨r', e⟩ := r.new (o := o) hp
  exact ⟨S, _, .d x, r', e, d, q⟩
end
/-! ### the judgements -/
def EW (X : Cx) (R : Fr) (e : Expr) (f : PTE) : Prop := ∀ (S : List Cell) (V H : Hp) (σ : L2.St) (Γ : PEnv) (Q : QE), Rep X.K R S V H → Slots X.K S V σ Γ → f Γ (obs S) Q → wE X e σ H (PostE X.K R S V Q)
def TW (X : Cx) (R : Fr) (e : Expr) (f : PTT) : Prop := ∀ (S : List Cell) (V H : Hp) (σ : L2.St) (Γ : PEnv) (Q : Bool → List Ob → Prop), Rep X.K R S V H → Slots X.K S V σ Γ → f Γ (obs S) Q → wT X e σ H (PostT X.K R S V Q)
def WW (X : Cx) (R : Fr) (e : Expr) (f : PTT) : Prop := ∀ (S : List Cell) (V H : Hp) (σ : L2.St) (Γ : PEnv) (Q : Bool → List Ob → Prop), Rep X.K R S V H → Slots X.K S V σ Γ → f Γ (obs S) Q → wW X e σ H (PostT X.K R S V Q)
def AW (X : Cx) (R : Fr) (es : List Expr) (f : PTA) : Prop := ∀ (S : List Cell) (V H : Hp) (σ : L2.St) (Γ : PEnv) (Q : List DV → List Ob → Prop), Rep X.K R S V H → Slots X.K S V σ Γ → f Γ (obs S) Q → wA X es σ H (PostA X.K R S V Q)
section
variable {X : Cx} {R : Fr}
/-! ### names, constants -/
def qVar (i : Nat) : PTE := fun Γ O Q => match Γ[i]? with
  | some (some dv) => Q dv O
  | _ => False
theorem ew_var (i : Nat) {x : Str} {pos : Pos} (hN : X.N[i]? = some x := by rfl) (hv : Vis X.env.scope x := by first | exact Or.inl rfl | exact Or.inr (Or.inl rfl) | exact Or.inr (Or.inr rfl)) (hd : (x == ("__debug__" : Str)) = false := by decide)
    (hcd : (x == ("__classdict__" : Str)) = false := by decide) : EW X R (.Name x pos) (qVar i) := by
  intro S V H σ Γ Q r sl q
  unfold qVar at q
  split at q
  · rename_i dv e
    obtain ⟨v, h1, h2⟩ := sl.at_ i dv e
    exact wE_of (pe_var hN hv hd hcd) ⟨v, h1, .here r h2 q⟩
  · exact q.elim
def qC (x : PyData) : PTE := fun _ O Q => Q (.d x) O
theorem ew_int {i j pos} : EW X R (.Constant (.int i) j pos) (qC (.int i)) := fun S V H σ Γ Q r sl q => wE_of pe_int (PostE.hd r (.int i) q)
theorem ew_bl {i j pos} : EW X R (.Constant (.bool i) j pos) (qC (.bool i)) := fun S V H σ Γ Q r sl q => wE_of pe_bl (PostE.hd r (.bl i) q)
theorem ew_non {j pos} : EW X R (.Constant .none j pos) (qC .none) := fun S V H σ Γ Q r sl q => wE_of pe_non (PostE.hd r .non q)
theorem ew_str {i j pos} : EW X R (.Constant (.str i) j pos) (qC (.str i)) := fun S V H σ Γ Q r sl q => wE_of pe_str (PostE.hd r (.str i) q)
theorem ew_glob {x : Str} {v : L2.V} {u : Value} {d : PyData} {pos : Pos} (hm : X.mg x = some u) (hg : Gl X x := by rfl) (rv : RelV v u) (hd : ∀ V, Dq X.K V v d) (hb : (x == ("__debug__" : Str)) = false := by decide) : EW X R (.Name x pos) (qC d) :=
  fun S V H σ Γ Q r sl q => wE_of (pe_glob hg hm rv hb) (PostE.hd r (hd V) q)
/-! ### two-place operations -/
/-- what is read at once: data, or an owned list as it stands -/
def lstOf : Option Ob → Option PyData
  | some (.lst ds) => some (.list ds)
  | _ => none
theorem lstOf_some {o : Option Ob} {x : PyData} (h : lstOf o = some x) : ∃ ds, o = some (.lst ds) ∧ x = .list ds := by
  unfold lstOf at h
  split at h
  · cases h; exact ⟨_, rfl, rfl⟩
  · cases h
def rd (O : List Ob) : DV → Option PyData
  | .d x => some x
  | .o i => lstOf O[i]?
  | .x _ => none
theorem rd_dq {K : PySem.W.Frag} {S : List Cell} {V H : Hp} {v : L2.V} {dv : DV} {x : PyData} (r : Rep K R S V H) (d : DVat K S V v dv) (e : rd (obs S) dv = some x) : Dq K H v x := by
  cases dv with
  | d y => cases e; exact Dq.mono r.vh d
  | o i =>
    obtain ⟨c, hc, rfl⟩ := d
    obtain ⟨ds, q, rfl⟩ := lstOf_some e
    obtain ⟨c', hc', ho⟩ := obs_get q
    rw [hc] at hc'; cases hc'
    have := r.own i c hc
    rw [ho] at this
    obtain ⟨_, xs, h1, h2⟩ := this
    exact .lst h1 (h2.mono r.vh)
  | x _ => cases e
/-- the items of a list are of the view -/
theorem rd_lst {K : PySem.W.Frag} {S : List Cell} {V H : Hp} {v : L2.V} {dv : DV} {ds : List PyData} (r : Rep K R S V H) (d : DVat K S V v dv) (e : rd (obs S) dv = some (.list ds)) : ∃ a xs, v = .ref a ∧ H a = some (.lst xs) ∧ DqL K V xs ds := by
  cases dv with
  | d y =>
    cases e
    cases d with
    | lst h1 h2 => exact ⟨_, _, rfl, r.vh _ _ h1, h2⟩
  | o i =>
    obtain ⟨c, hc, rfl⟩ := d
    obtain ⟨ds', q, e'⟩ := lstOf_some e
    cases e'
    obtain ⟨c', hc', ho⟩ := obs_get q
    rw [hc] at hc'; cases hc'
    have := r.own i c hc
    rw [ho] at this
    obtain ⟨_, xs, h1, h2⟩ := this
    exact ⟨_, xs, rfl, h1, h2⟩
  | x _ => cases e
theorem rd_tup {K : PySem.W.Frag} {S : List Cell} {V H : Hp} {v : L2.V} {dv : DV} {ds : List PyData} (r : Rep K R S V H) (d : DVat K S V v dv) (e : rd (obs S) dv = some (.tuple ds)) : ∃ a xs, v = .ref a ∧ SqT K V a xs ∧ DqL K V xs ds := by
  cases dv with
  | d y =>
    cases e
    cases d with
    | tup h1 h2 => exact ⟨_, _, rfl, h1, h2⟩
  | o i =>
    obtain ⟨ds', q, e'⟩ := lstOf_some e
    cases e'
  | x _ => cases e
abbrev VOp := DV → DV → List Ob → QE → Prop
def OpW (X : Cx) (R : Fr) (f : Value → Value → Sem Value) (op : VOp) : Prop := ∀ (S : List Cell) (V H : Hp) (x y : L2.V) (da db : DV) (Q : QE), Rep X.K R S V H → DVat X.K S V x da → DVat X.K S V y db → op da db (obs S) Q → wO X f x y H (PostE X.K R S V Q)
def qBin (op : VOp) (f g : PTE) : PTE := fun Γ O Q => f Γ O fun x O1 => g Γ O1 fun y O2 => op x y O2 Q
variable {a b c : Expr} {f g h : PTE} {pos : Pos}
theorem ew_bin {op : Operator} {o : VOp} (ho : OpW X R (binaryOp op) o) (ha : EW X R a f) (hb : EW X R b g) : EW X R (.BinOp a op b pos) (qBin o f g) := by
  intro S V H σ Γ Q r sl q
  refine wE_of (pe_op wO_op wE_pe wE_pe) (wE_mono (ha S V H σ Γ _ r sl q) fun v H1 ⟨S1, V1, da, r1, e1, d1, q1⟩ => ?_)
  refine wE_mono (hb S1 V1 H1 σ Γ _ r1 (sl.mono e1) q1) fun u H2 ⟨S2, V2, db, r2, e2, d2, q2⟩ => ?_
  obtain ⟨t, ht, q3⟩ := ho S2 V2 H2 v u da db Q r2 (d1.mono e2) d2 q2
  exact ⟨fun x y H Q => ∃ Q', (∀ v H, Q' v H → Q v H) ∧ t x y H Q', fun pins s σ H x y v u Q I rx ry ⟨Q', hQ, z⟩ => thn (ht pins s σ H x y v u Q' I rx ry z) fun _ _ ⟨v, H', I', r, q⟩ => ⟨v, H', I', r, hQ v H' q⟩, _, fun v H z => PostE.ext (e1.trans e2) z, q3⟩
def opI (f : Int → Int → PyData) : VOp := fun x y O Q => match rd O x, rd O y with
  | some (.int i), some (.int j) => Q (.d (f i j)) O
  | _, _ => False
def opAdd : VOp := fun x y O Q => match rd O x, rd O y with
  | some (.int i), some (.int j) => Q (.d (.int (i + j))) O
  | some (.list xs), some (.list ys) => xs.length + ys.length ≤ 100000 ∧ Q (.d (.list (xs ++ ys))) O
  | some (.tuple xs), some (.tuple ys) => xs.length + ys.length ≤ 100000 ∧ Q (.d (.tuple (xs ++ ys))) O
  | _, _ => False
def opSub : VOp := fun x y O Q => match rd O x, rd O y with
  | some (.int i), some (.int j) => Q (.d (.int (i - j))) O
  | _, _ => False
def opMul : VOp := fun x y O Q => match rd O x, rd O y with
  | some (.int i), some (.int j) => ((-(2 ^ 64) < i ∧ i < 2 ^ 64) ∨ (-(2 ^ 64) < j ∧ j < 2 ^ 64)) ∧ Q (.d (.int (i * j))) O
  | some (.list xs), some (.int k) => xs.length ≤ 100000 ∧ (k = 0 ∨ k = 1) ∧ Q (.d (.list (if k = 0 then [] else xs))) O
  | _, _ => False
def opMod : VOp := fun x y O Q => match rd O x, rd O y with
  | some (.int i), some (.int j) => 0 < j ∧ Q (.d (.int (i % j))) O
  | _, _ => False
def opFdiv : VOp := fun x y O Q => match rd O x, rd O y with
  | some (.int i), some (.int j) => (0 < j ∧ j < 1073741824) ∧ Q (.d (.int (i / j))) O
  | _, _ => False
def opPow : VOp := fun x y O Q => match rd O x, rd O y with
  | some (.int i), some (.int j) => CPow i j ∧ Q (.d (.int (i ^ j.toNat))) O
  | _, _ => False
theorem dq_int {K : PySem.W.Frag} {V : Hp} {v : L2.V} {i : Int} (h : Dq K V v (.int i)) : v = .int i := by cases h; rfl
theorem ow_sub : OpW X R (binaryOp .Sub) opSub := by
  intro S V H x y da db Q r dx dy q
  unfold opSub at q
  split at q
  · rename_i i j e1 e2
    cases dq_int (rd_dq r dx e1); cases dq_int (rd_dq r dy e2)
    exact ⟨_, op_sub, i, j, rfl, rfl, .hd r (.int _) q⟩
  · exact q.elim
theorem ow_mod : OpW X R (binaryOp .Mod) opMod := by
  intro S V H x y da db Q r dx dy q
  unfold opMod at q
  split at q
  · rename_i i j e1 e2
    cases dq_int (rd_dq r dx e1); cases dq_int (rd_dq r dy e2)
    exact ⟨_, op_mod, i, j, rfl, rfl, q.1, .hd r (.int _) q.2⟩
  · exact q.elim
theorem ow_fdiv : OpW X R (binaryOp .FloorDiv) opFdiv := by
  intro S V H x y da db Q r dx dy q
  unfold opFdiv at q
  split at q
  · rename_i i j e1 e2
    cases dq_int (rd_dq r dx e1); cases dq_int (rd_dq r dy e2)
    exact ⟨_, op_fdiv, i, j, rfl, rfl, ⟨by omega, by omega⟩, .hd r (.int _) q.2⟩
  · exact q.elim
theorem ow_pow : OpW X R (binaryOp .Pow) opPow := by
  intro S V H x y da db Q r dx dy q
  unfold opPow at q
  split at q
  · rename_i i j e1 e2
    cases dq_int (rd_dq r dx e1); cases dq_int (rd_dq r dy e2)
    exact ⟨_, op_pow, i, j, rfl, rfl, q.1, .hd r (.int _) q.2⟩
  · exact q.elim
theorem ow_mul : OpW X R (binaryOp .Mult) opMul := by
  intro S V H x y da db Q r dx dy q
  unfold opMul at q
  split at q
  · rename_i i j e1 e2
    cases dq_int (rd_dq r dx e1); cases dq_int (rd_dq r dy e2)
    exact ⟨_, op_mul, i, j, rfl, rfl, q.1, .hd r (.int _) q.2⟩
  · rename_i xs k e1 e2
    obtain ⟨p, vs, rfl, hp, hd⟩ := rd_lst r dx e1
    cases dq_int (rd_dq r dy e2)
    obtain ⟨hz, hk, q⟩ := q
    have hs : sizeLine = 16777216 := sizeLine_eq
    have hl := hd.length
    refine ⟨_, op_rep, p, k, vs, rfl, rfl, hp, by omega, by omega, ?_, fun l hn => ?_⟩
    · rcases hk with rfl | rfl
      · simp
      · simp; omega
    · rcases hk with rfl | rfl
      · exact .new r hn (.lst upd_same .nil) q
      · refine .new r hn (.lst upd_same ?_) q
        have : (List.replicate (1 : Int).toNat vs).flatten = vs := by simp
        rw [this]
        exact hd.mono (r.new hn).2.v
  · exact q.elim
theorem ow_add : OpW X R (binaryOp .Add) opAdd := by
  intro S V H x y da db Q r dx dy q
  unfold opAdd at q
  have hs : sizeLine = 16777216 := sizeLine_eq
  split at q
  · rename_i i j e1 e2
    cases dq_int (rd_dq r dx e1); cases dq_int (rd_dq r dy e2)
    exact ⟨_, op_add, i, j, rfl, rfl, .hd r (.int _) q⟩
  · rename_i xs ys e1 e2
    obtain ⟨p, vs, rfl, hp, hd⟩ := rd_lst r dx e1
    obtain ⟨p2, us, rfl, hp2, hd2⟩ := rd_lst r dy e2
    have hl := hd.length
    have hl2 := hd2.length
    refine ⟨_, op_cat, p, p2, vs, us, rfl, rfl, hp, hp2, by omega, fun l hn => ?_⟩
    exact .new r hn (.lst upd_same ((hd.append hd2).mono (r.new hn).2.v)) q.2
  · rename_i xs ys e1 e2
    obtain ⟨p, vs, rfl, hp, hd⟩ := rd_tup r dx e1
    obtain ⟨p2, us, rfl, hp2, hd2⟩ := rd_tup r dy e2
    have hl := hd.length
    have hl2 := hd2.length
    have emp : ∀ {vs : List L2.V} {xs : List PyData}, DqL X.K V vs xs → vs = [] → xs = [] := fun {vs xs} hd e => by subst e; cases hd; rfl
    refine ⟨_, op_catA, p, p2, vs, us, rfl, rfl, same_seqT r.vh hp, same_seqT r.vh hp2, by omega, fun e => ?_, fun _ e => ?_, fun _ _ l hn => ?_⟩
    · cases emp hd e
      exact .hd r (.tup hp2 hd2) (by simpa using q.2)
    · cases emp hd2 e
      exact .hd r (.tup hp hd) (by simpa using q.2)
    · exact .new r hn (.tup (SqT.of upd_same) ((hd.append hd2).mono (r.new hn).2.v)) q.2
  · exact q.elim
/-! ### comparisons -/
theorem ew_cmp {op : CmpOp} {o : VOp} (ho : OpW X R (compareOp op) o) (ha : EW X R a f) (hb : EW X R b g) (hm : behindInMarks op b = false := by first | exact nomark _ | rfl) : EW X R (.Compare a [op] [b] pos) (qBin o f g) := by
  intro S V H σ Γ Q r sl q
  refine wE_of (pe_cmpR wO_op wE_pe wE_pe hm) (wE_mono (ha S V H σ Γ _ r sl q) fun v H1 ⟨S1, V1, da, r1, e1, d1, q1⟩ => ?_)
  refine wE_mono (hb S1 V1 H1 σ Γ _ r1 (sl.mono e1) q1) fun u H2 ⟨S2, V2, db, r2, e2, d2, q2⟩ => ?_
  obtain ⟨t, ht, q3⟩ := ho S2 V2 H2 v u da db Q r2 (d1.mono e2) d2 q2
  exact ⟨fun x y H Q => ∃ Q', (∀ v H, Q' v H → Q v H) ∧ t x y H Q', fun pins s σ H x y v u Q I rx ry ⟨Q', hQ, z⟩ => thn (ht pins s σ H x y v u Q' I rx ry z) fun _ _ ⟨v, H', I', r, q⟩ => ⟨v, H', I', r, hQ v H' q⟩, _, fun v H z => PostE.ext (e1.trans e2) z, q3⟩
def opC (p : Int → Int → Bool) : VOp := fun x y O Q => match rd O x, rd O y with
  | some (.int i), some (.int j) => Q (.d (.bool (p i j))) O
  | _, _ => False
theorem ow_cmpI {op : CmpOp} {p : Int → Int → Bool} (ho : OpR X (compareOp op) (rI0 fun i j => .bl (p i j))) : OpW X R (compareOp op) (opC p) := by
  intro S V H x y da db Q r dx dy q
  unfold opC at q
  split at q
  · rename_i i j e1 e2
    cases dq_int (rd_dq r dx e1); cases dq_int (rd_dq r dy e2)
    exact ⟨_, ho, i, j, rfl, rfl, .hd r (.bl _) q⟩
  · exact q.elim
abbrev opLt : VOp := opC fun i j => decide (i < j)
abbrev opLe : VOp := opC fun i j => decide (i ≤ j)
abbrev opGt : VOp := opC fun i j => decide (j < i)
abbrev opGe : VOp := opC fun i j => decide (j ≤ i)
theorem ow_lt : OpW X R (compareOp .Lt) opLt := ow_cmpI op_lt
theorem ow_le : OpW X R (compareOp .LtE) opLe := ow_cmpI op_le
theorem ow_gt : OpW X R (compareOp .Gt) opGt := ow_cmpI op_gt
theorem ow_ge : OpW X R (compareOp .GtE) opGe := ow_cmpI op_ge
def scalD : PyData → PyData → Bool
  | .none, .none => true
  | .none, .int _ => true
  | .int _, .none => true
  | .none, .bool _ => true
  | .bool _, .none => true
  | .none, .str _ => true
  | .str _, .none => true
  | .int _, .int _ => true
  | .bool _, .bool _ => true
  | .str _, .str _ => true
  | .int _, .str _ => true
  | .str _, .int _ => true
  | .bool _, .str _ => true
  | .str _, .bool _ => true
  | _, _ => false
theorem scal_dq {K : PySem.W.Frag} {V : Hp} {d e : PyData} {v u : L2.V} (h1 : Dq K V v d) (h2 : Dq K V u e) (s : scalD d e = true) : scal v u = true ∧ decide (v = u) = PyData.eqv d e := by
  have hi : ∀ {i j : Int}, decide (L2.V.int i = L2.V.int j) = (i == j) := fun {i j} => by
    by_cases h : i = j
    · subst h; simp
    · rw [decide_eq_false (fun z => h (L2.V.int.inj z)), beq_eq_false_iff_ne.mpr h]
  have hb : ∀ {i j : Bool}, decide (L2.V.bl i = L2.V.bl j) = (i == j) := fun {i j} => by cases i <;> cases j <;> rfl
  have hs : ∀ {i j : Str}, decide (L2.V.str i = L2.V.str j) = (i == j) := fun {i j} => by
    by_cases h : i = j
    · subst h; simp
    · rw [decide_eq_false (fun z => h (L2.V.str.inj z)), beq_eq_false_iff_ne.mpr h]
  cases h1 <;> cases h2 <;> first | (cases s; done) | exact ⟨rfl, hi⟩ | exact ⟨rfl, hb⟩ | exact ⟨rfl, hs⟩ | exact ⟨rfl, rfl⟩
def opEq : VOp := fun x y O Q => match rd O x, rd O y with
  | some d, some e => match scalD d e with
    | true => Q (.d (.bool (PyData.eqv d e))) O
    | false => SeqAt.shaped d = true ∧ SeqAt.shaped e = true ∧ Q (.d (.bool (PyData.eqv d e))) O
  | _, _ => False
def opNe : VOp := fun x y O Q => match rd O x, rd O y with
  | some d, some e => match scalD d e with
    | true => Q (.d (.bool (!PyData.eqv d e))) O
    | false => SeqAt.shaped d = true ∧ SeqAt.shaped e = true ∧ Q (.d (.bool (!PyData.eqv d e))) O
  | _, _ => False
theorem ow_eq (hu : X.A.units + 65 < cLine) : OpW X R (compareOp .Eq) opEq := by
  intro S V H x y da db Q r dx dy q
  unfold opEq at q
  split at q
  · rename_i d e e1 e2
    split at q
    · rename_i hs
      obtain ⟨h1, h2⟩ := scal_dq (rd_dq r dx e1) (rd_dq r dy e2) hs
      exact ⟨_, op_eq, h1, by rw [h2]; exact .hd r (.bl _) q⟩
    · exact ⟨_, op_eqD (by omega), d, e, (rd_dq r dx e1).dp, (rd_dq r dy e2).dp, q.1, q.2.1, .hd r (.bl _) q.2.2⟩
  · exact q.elim
theorem ow_ne (hu : X.A.units + 65 < cLine) : OpW X R (compareOp .NotEq) opNe := by
  intro S V H x y da db Q r dx dy q
  unfold opNe at q
  split at q
  · rename_i d e e1 e2
    split at q
    · rename_i hs
      obtain ⟨h1, h2⟩ := scal_dq (rd_dq r dx e1) (rd_dq r dy e2) hs
      exact ⟨_, op_ne, h1, by rw [h2]; exact .hd r (.bl _) q⟩
    · exact ⟨_, op_neD (by omega), d, e, (rd_dq r dx e1).dp, (rd_dq r dy e2).dp, q.1, q.2.1, .hd r (.bl _) q.2.2⟩
  · exact q.elim
/-! in: a flat thing in a flat list or tuple; any thing in a list -/
def flatD : PyData → Bool
  | .none => true
  | .bool _ => true
  | .int _ => true
  | .str _ => true
  | _ => false
theorem flat_dq {K : PySem.W.Frag} {V : Hp} : ∀ {d : PyData} {v : L2.V}, Dq K V v d → flatD d = true → flatV v = true
  | .none, _, h, _ => by cases h; rfl
  | .bool _, _, h, _ => by cases h; rfl
  | .int _, _, h, _ => by cases h; rfl
  | .str _, _, h, _ => by cases h; rfl
  | .list _, _, _, h => by cases h
  | .tuple _, _, _, h => by cases h
  | .dict _, _, _, h => by cases h
theorem flat_dqL {K : PySem.W.Frag} {V : Hp} : ∀ {ds : List PyData} {vs : List L2.V}, DqL K V vs ds → ds.all flatD = true → vs.all flatV = true
  | [], _, h, _ => by cases h; rfl
  | d :: ds, _, h, q => by
    cases h with
    | cons h1 h2 =>
      rw [List.all_cons, Bool.and_eq_true] at q ⊢
      exact ⟨flat_dq h1 q.1, flat_dqL h2 q.2⟩
theorem eqV_dq {K : PySem.W.Frag} {V : Hp} {d e : PyData} {v u : L2.V} (h1 : Dq K V v d) (h2 : Dq K V u e) (f1 : flatD d = true) (f2 : flatD e = true) : eqV v u = PyData.eqv d e := by
  cases h1 <;> first | (cases f1; done) | (cases h2 <;> first | (cases f2; done) | rfl | simp only [eqV, PyData.eqv])

end
end PW

namespace PW
open PySem PySem.Spec PyProof.Rows L2
section
variable {X : Cx} {R : Fr} {a b c : Expr} {f g h : PTE} {pos : Pos}
/-! ### in -/
theorem any_dq {K : PySem.W.Frag} {V : Hp} {d : PyData} {v : L2.V} (h1 : Dq K V v d) (f1 : flatD d = true) : ∀ {ds : List PyData} {vs : List L2.V}, DqL K V vs ds → ds.all flatD = true → inV v vs = ds.any (fun z => PyData.eqv z d)
  | [], _, h, _ => by cases h; rfl
  | e :: ds, _, h, q => by
    cases h with
    | cons h2 h3 =>
      rw [List.all_cons, Bool.and_eq_true] at q
      unfold inV
      rw [List.any_cons, List.any_cons, eqV_dq h2 h1 q.1 f1]
      have := any_dq h1 f1 h3 q.2
      unfold inV at this
      rw [this]
def opIn (neg : Bool) : VOp := fun x y O Q => match rd O x, rd O y with
  | some d, some (.list ds) => SeqAt.shaped d = true ∧ SeqAt.shaped (.list ds) = true ∧ Q (.d (.bool (if neg then !ds.any (fun z => PyData.eqv z d) else ds.any (fun z => PyData.eqv z d)))) O
  | some d, some (.tuple ds) => flatD d = true ∧ ds.all flatD = true ∧ Q (.d (.bool (if neg then !ds.any (fun z => PyData.eqv z d) else ds.any (fun z => PyData.eqv z d)))) O
  | _, _ => False
theorem ow_in (hu : X.A.units + 65 < cLine) : OpW X R (compareOp .In) (opIn false) := by
  intro S V H x y da db Q r dx dy q
  unfold opIn at q
  split at q
  · rename_i d ds e1 e2
    exact ⟨_, op_inD hu, d, ds, (rd_dq r dx e1).dp, (rd_dq r dy e2).dp, q.1, q.2.1, .hd r (.bl _) q.2.2⟩
  · rename_i d ds e1 e2
    obtain ⟨p, us, rfl, hp, hd⟩ := rd_tup r dy e2
    have h1 := rd_dq r dx e1
    refine ⟨_, op_in_seq, p, us, rfl, .inr (same_seqT r.vh hp), flat_dq h1 q.1, flat_dqL hd q.2.1, ?_⟩
    rw [any_dq h1 q.1 (hd.mono r.vh) q.2.1]
    exact .hd r (.bl _) q.2.2
  · exact q.elim
theorem ow_notIn (hu : X.A.units + 65 < cLine) : OpW X R (compareOp .NotIn) (opIn true) := by
  intro S V H x y da db Q r dx dy q
  unfold opIn at q
  split at q
  · rename_i d ds e1 e2
    exact ⟨_, op_notInD hu, d, ds, (rd_dq r dx e1).dp, (rd_dq r dy e2).dp, q.1, q.2.1, .hd r (.bl _) q.2.2⟩
  · rename_i d ds e1 e2
    obtain ⟨p, us, rfl, hp, hd⟩ := rd_tup r dy e2
    have h1 := rd_dq r dx e1
    refine ⟨_, op_notIn_seq, p, us, rfl, .inr (same_seqT r.vh hp), flat_dq h1 q.1, flat_dqL hd q.2.1, ?_⟩
    rw [any_dq h1 q.1 (hd.mono r.vh) q.2.1]
    exact .hd r (.bl _) q.2.2
  · exact q.elim
/-! ### is None -/
def isNoneD : PyData → Bool
  | .none => true
  | _ => false
theorem none_dq {K : PySem.W.Frag} {V : Hp} {d : PyData} {v : L2.V} (h : Dq K V v d) : decide (v = .non) = isNoneD d := by
  cases h <;> rfl
def opIs (neg : Bool) : VOp := fun x y O Q => match y, x with
  | .d .none, .d d => Q (.d (.bool (if neg then !isNoneD d else isNoneD d))) O
  | .d .none, .o _ => Q (.d (.bool neg)) O
  | _, _ => False
theorem ow_is : OpW X R (compareOp .Is) (opIs false) := by
  intro S V H x y da db Q r dx dy q
  unfold opIs at q
  split at q
  · rename_i d
    cases dy
    refine ⟨_, op_isN, rfl, ?_⟩
    rw [none_dq dx]
    exact .hd r (.bl _) q
  · cases dy
    obtain ⟨c, _, rfl⟩ := dx
    refine ⟨_, op_isN, rfl, ?_⟩
    exact .hd r (.bl _) q
  · exact q.elim
theorem ow_isNot : OpW X R (compareOp .IsNot) (opIs true) := by
  intro S V H x y da db Q r dx dy q
  unfold opIs at q
  split at q
  · rename_i d
    cases dy
    refine ⟨_, op_notN, rfl, ?_⟩
    rw [none_dq dx]
    exact .hd r (.bl _) q
  · cases dy
    obtain ⟨c, _, rfl⟩ := dx
    refine ⟨_, op_notN, rfl, ?_⟩
    exact .hd r (.bl _) q
  · exact q.elim
/-! ### tests -/
def qB (f : PTE) : PTT := fun Γ O Q => f Γ O fun dv O1 => match dv with
  | .d (.bool k) => Q k O1
  | _ => False
def tru (Q : Bool → List Ob → Prop) (dv : DV) (O : List Ob) : Prop := match rd O dv with
  | some .none => Q false O
  | some (.bool k) => Q k O
  | some (.int i) => Q (i != 0) O
  | some (.list ds) => Q (!ds.isEmpty) O
  | some (.tuple ds) => Q (!ds.isEmpty) O
  | _ => False
def qTru (f : PTE) : PTT := fun Γ O Q => f Γ O (tru Q)
theorem post_bool {K : PySem.W.Frag} {S : List Cell} {V H : Hp} {v : L2.V} {Q : Bool → List Ob → Prop} (p : PostE K R S V (fun dv O1 => match dv with | .d (.bool k) => Q k O1 | _ => False) v H) : ∃ k, v = .bl k ∧ PostT K R S V Q k H := by
  obtain ⟨S1, V1, dv, r1, e1, d1, q1⟩ := p
  try dsimp only at q1
  split at q1
  · cases d1
    exact ⟨_, rfl, S1, V1, r1, e1, q1⟩
  · exact q1.elim
theorem tw_val (ha : EW X R a f) (he : ∀ whole, isTrue a X.env whole = (do let v ← whole; standAt a.pos; holding [v] (truthy v)) := by intro _; rfl) : TW X R a (qB f) := by
  intro S V H σ Γ Q r sl q
  refine wT_of (pt_val wE_pe he) (wE_mono (ha S V H σ Γ _ r sl q) fun v H1 p => ?_)
  obtain ⟨k, rfl, p'⟩ := post_bool p
  exact ⟨k, rfl, p'⟩
theorem isEmpty_dqL {K : PySem.W.Frag} {V : Hp} {ds : List PyData} {vs : List L2.V} (h : DqL K V vs ds) : vs.isEmpty = ds.isEmpty := by cases h <;> rfl
theorem tw_tru (ha : EW X R a f) (he : ∀ whole, isTrue a X.env whole = (do let v ← whole; standAt a.pos; holding [v] (truthy v)) := by intro _; rfl) : TW X R a (qTru f) := by
  intro S V H σ Γ Q r sl q
  refine wT_of (pt_truth wE_pe he) (wE_mono (ha S V H σ Γ _ r sl q) fun v H1 ⟨S1, V1, dv, r1, e1, d1, q1⟩ => ?_)
  unfold tru at q1
  try dsimp only at q1
  split at q1
  · rename_i e
    have := rd_dq r1 d1 e
    cases this
    exact ⟨_, rfl, S1, V1, r1, e1, q1⟩
  · rename_i k e
    have := rd_dq r1 d1 e
    cases this
    exact ⟨_, rfl, S1, V1, r1, e1, q1⟩
  · rename_i k e
    have := rd_dq r1 d1 e
    cases this
    exact ⟨_, rfl, S1, V1, r1, e1, q1⟩
  · rename_i ds e
    obtain ⟨p, vs, rfl, hp, hd⟩ := rd_lst r1 d1 e
    exact ⟨_, .inl ⟨vs, SqL.of hp, rfl⟩, S1, V1, r1, e1, by rw [isEmpty_dqL hd]; exact q1⟩
  · rename_i ds e
    obtain ⟨p, vs, rfl, hp, hd⟩ := rd_tup r1 d1 e
    exact ⟨_, .inr (.inl ⟨vs, same_seqT r1.vh hp, rfl⟩), S1, V1, r1, e1, by rw [isEmpty_dqL hd]; exact q1⟩
  · exact q1.elim
theorem tw_cmp {op : CmpOp} {o : VOp} (ho : OpW X R (compareOp op) o) (ha : EW X R a f) (hb : EW X R b g) (hm : behindInMarks op b = false := by first | exact nomark _ | rfl) : TW X R (.Compare a [op] [b] pos) (qB (qBin o f g)) := by
  intro S V H σ Γ Q r sl q
  refine wT_of (pt_cmpR wO_op wE_pe wE_pe hm) (wE_mono (ha S V H σ Γ _ r sl q) fun v H1 ⟨S1, V1, da, r1, e1, d1, q1⟩ => ?_)
  refine wE_mono (hb S1 V1 H1 σ Γ _ r1 (sl.mono e1) q1) fun u H2 ⟨S2, V2, db, r2, e2, d2, q2⟩ => ?_
  obtain ⟨t, ht, q3⟩ := ho S2 V2 H2 v u da db _ r2 (d1.mono e2) d2 q2
  exact ⟨fun x y H Q => ∃ Q', (∀ v H, Q' v H → Q v H) ∧ t x y H Q', fun pins s σ H x y v u Q I rx ry ⟨Q', hQ, z⟩ => thn (ht pins s σ H x y v u Q' I rx ry z) fun _ _ ⟨v, H', I', r, q⟩ => ⟨v, H', I', r, hQ v H' q⟩, _, fun v H z => by
    obtain ⟨k, hk, p⟩ := post_bool z
    exact ⟨k, hk, p.ext (e1.trans e2)⟩, q3⟩
def qNotT (t : PTT) : PTT := fun Γ O Q => t Γ O fun k O1 => Q (!k) O1
variable {t u : PTT} {rest : List Expr}
theorem tw_not (ha : TW X R a t) : TW X R (.UnaryOp .Not a pos) (qNotT t) := by
  intro S V H σ Γ Q r sl q
  exact wT_of (pt_not wT_pt) (wT_mono (ha S V H σ Γ _ r sl q) fun k H1 p => p)
def qAndT (t u : PTT) : PTT := fun Γ O Q => t Γ O fun k O1 => match k with
  | true => u Γ O1 Q
  | false => Q false O1
def qOrT (t u : PTT) : PTT := fun Γ O Q => t Γ O fun k O1 => match k with
  | true => Q true O1
  | false => u Γ O1 Q
theorem ww_and1 (ha : TW X R a t) : WW X R (.BoolOp .And [a] pos) t := fun S V H σ Γ Q r sl q => wW_of (pw_and1 wT_pt) (ha S V H σ Γ Q r sl q)
theorem ww_or1 (ha : TW X R a t) : WW X R (.BoolOp .Or [a] pos) t := fun S V H σ Γ Q r sl q => wW_of (pw_or1 wT_pt) (ha S V H σ Γ Q r sl q)
theorem ww_and (ha : TW X R a t) (hb : WW X R (.BoolOp .And (b :: rest) pos) u) : WW X R (.BoolOp .And (a :: b :: rest) pos) (qAndT t u) := by
  intro S V H σ Γ Q r sl q
  refine wW_of (pw_and wT_pt wW_pw) (wT_mono (ha S V H σ Γ _ r sl q) fun k H1 ⟨S1, V1, r1, e1, q1⟩ => ?_)
  cases k with
  | true =>
    rw [if_pos rfl]
    exact wW_mono (hb S1 V1 H1 σ Γ Q r1 (sl.mono e1) q1) fun _ _ p => p.ext e1
  | false =>
    rw [if_neg Bool.false_ne_true]
    exact ⟨S1, V1, r1, e1, q1⟩
theorem ww_or (ha : TW X R a t) (hb : WW X R (.BoolOp .Or (b :: rest) pos) u) : WW X R (.BoolOp .Or (a :: b :: rest) pos) (qOrT t u) := by
  intro S V H σ Γ Q r sl q
  refine wW_of (pw_or wT_pt wW_pw) (wT_mono (ha S V H σ Γ _ r sl q) fun k H1 ⟨S1, V1, r1, e1, q1⟩ => ?_)
  cases k with
  | true =>
    rw [if_pos rfl]
    exact ⟨S1, V1, r1, e1, q1⟩
  | false =>
    rw [if_neg Bool.false_ne_true]
    exact wW_mono (hb S1 V1 H1 σ Γ Q r1 (sl.mono e1) q1) fun _ _ p => p.ext e1
theorem tw_ww {e : Expr} (h : WW X R e t) : TW X R e t := fun S V H σ Γ Q r sl q pins s I => h S V H σ Γ Q r sl q _ pins s I
/-! ### and, or, not as values; a if t else b -/
def andK (g : PTE) (Γ : PEnv) (Q : QE) (k : Bool) (O : List Ob) : Prop := match k with
  | true => g Γ O Q
  | false => Q (.d (.bool false)) O
def orK (g : PTE) (Γ : PEnv) (Q : QE) (k : Bool) (O : List Ob) : Prop := match k with
  | true => Q (.d (.bool true)) O
  | false => g Γ O Q
def qAndV (f g : PTE) : PTE := fun Γ O Q => f Γ O fun dv O1 => match dv with
  | .d (.bool k) => andK g Γ Q k O1
  | _ => False
def qOrV (f g : PTE) : PTE := fun Γ O Q => f Γ O fun dv O1 => match dv with
  | .d (.bool k) => orK g Γ Q k O1
  | _ => False
def qNotV (f : PTE) : PTE := fun Γ O Q => f Γ O fun dv O1 => match dv with
  | .d (.bool k) => Q (.d (.bool (!k))) O1
  | _ => False
theorem ew_one {op} (ha : EW X R a f) : EW X R (.BoolOp op [a] pos) f := fun S V H σ Γ Q r sl q => wE_of (pe_one wE_pe) (ha S V H σ Γ Q r sl q)
theorem ew_and (ha : EW X R a f) (hb : EW X R (.BoolOp .And (b :: rest) pos) g) : EW X R (.BoolOp .And (a :: b :: rest) pos) (qAndV f g) := by
  intro S V H σ Γ Q r sl q
  refine wE_of (pe_and wE_pe wE_pe) (wE_mono (ha S V H σ Γ _ r sl q) fun v H1 ⟨S1, V1, dv, r1, e1, d1, q1⟩ => ?_)
  dsimp only at q1
  split at q1
  · rename_i k
    cases d1
    cases k with
    | true =>
      refine ⟨true, rfl, ?_⟩
      rw [if_pos rfl]
      exact wE_mono (hb S1 V1 H1 σ Γ Q r1 (sl.mono e1) q1) fun _ _ p => p.ext e1
    | false =>
      refine ⟨false, rfl, ?_⟩
      rw [if_neg Bool.false_ne_true]
      exact ⟨S1, V1, .d (.bool false), r1, e1, .bl _, q1⟩
  · exact q1.elim
theorem ew_or (ha : EW X R a f) (hb : EW X R (.BoolOp .Or (b :: rest) pos) g) : EW X R (.BoolOp .Or (a :: b :: rest) pos) (qOrV f g) := by
  intro S V H σ Γ Q r sl q
  refine wE_of (pe_or wE_pe wE_pe) (wE_mono (ha S V H σ Γ _ r sl q) fun v H1 ⟨S1, V1, dv, r1, e1, d1, q1⟩ => ?_)
  dsimp only at q1
  split at q1
  · rename_i k
    cases d1
    cases k with
    | true =>
      refine ⟨true, rfl, ?_⟩
      rw [if_pos rfl]
      exact ⟨S1, V1, .d (.bool true), r1, e1, .bl _, q1⟩
    | false =>
      refine ⟨false, rfl, ?_⟩
      rw [if_neg Bool.false_ne_true]
      exact wE_mono (hb S1 V1 H1 σ Γ Q r1 (sl.mono e1) q1) fun _ _ p => p.ext e1
  · exact q1.elim
theorem ew_not (ha : EW X R a f) : EW X R (.UnaryOp .Not a pos) (qNotV f) := by
  intro S V H σ Γ Q r sl q
  refine wE_of (pe_not wE_pe) (wE_mono (ha S V H σ Γ _ r sl q) fun v H1 ⟨S1, V1, dv, r1, e1, d1, q1⟩ => ?_)
  dsimp only at q1
  split at q1
  · cases d1
    exact ⟨_, rfl, S1, V1, .d (.bool _), r1, e1, .bl _, q1⟩
  · exact q1.elim
def qIf (t : PTT) (f g : PTE) : PTE := fun Γ O Q => t Γ O fun k O1 => match k with
  | true => f Γ O1 Q
  | false => g Γ O1 Q
theorem ew_if (hc : TW X R c t) (ha : EW X R a f) (hb : EW X R b g) : EW X R (.IfExp c a b pos) (qIf t f g) := by
  intro S V H σ Γ Q r sl q
  refine wE_of (pe_ifExp wT_pt wE_pe wE_pe) (wT_mono (hc S V H σ Γ _ r sl q) fun k H1 ⟨S1, V1, r1, e1, q1⟩ => ?_)
  cases k with
  | true =>
    rw [if_pos rfl]
    exact wE_mono (ha S1 V1 H1 σ Γ Q r1 (sl.mono e1) q1) fun _ _ p => p.ext e1
  | false =>
    rw [if_neg Bool.false_ne_true]
    exact wE_mono (hb S1 V1 H1 σ Γ Q r1 (sl.mono e1) q1) fun _ _ p => p.ext e1
def qNeg (f : PTE) : PTE := fun Γ O Q => f Γ O fun dv O1 => match dv with
  | .d (.int i) => Q (.d (.int (-i))) O1
  | _ => False
theorem ew_neg (ha : EW X R a f) : EW X R (.UnaryOp .USub a pos) (qNeg f) := by
  intro S V H σ Γ Q r sl q
  refine wE_of (pe_un un_neg wE_pe) (wE_mono (ha S V H σ Γ _ r sl q) fun v H1 ⟨S1, V1, dv, r1, e1, d1, q1⟩ => ?_)
  dsimp only at q1
  split at q1
  · cases d1
    exact ⟨_, rfl, S1, V1, .d (.int _), r1, e1, .int _, q1⟩
  · exact q1.elim
/-! ### argument lists, displays -/
variable {e : Expr} {es : List Expr} {fs : PTA}
def qNil : PTA := fun _ O Q => Q [] O
def qCons (f : PTE) (fs : PTA) : PTA := fun Γ O Q => f Γ O fun dv O1 => fs Γ O1 fun dvs O2 => Q (dv :: dvs) O2
theorem aw_nil : AW X R [] qNil := fun S V H σ Γ Q r sl q => wA_of pa_nil ⟨S, V, [], r, Ext.refl, .nil, q⟩
theorem aw_cons (ha : EW X R e f) (hr : AW X R es fs) (hs : starEach (e :: es) X.env = (false, eval e X.env) :: starEach es X.env := by rfl) : AW X R (e :: es) (qCons f fs) := by
  intro S V H σ Γ Q r sl q
  refine wA_of (pa_cons wE_pe wA_pa hs) (wE_mono (ha S V H σ Γ _ r sl q) fun v H1 ⟨S1, V1, dv, r1, e1, d1, q1⟩ => ?_)
  refine wA_mono (hr S1 V1 H1 σ Γ _ r1 (sl.mono e1) q1) fun vs H2 ⟨S2, V2, dvs, r2, e2, d2, q2⟩ => ?_
  exact ⟨S2, V2, dv :: dvs, r2, e1.trans e2, .cons (d1.mono e2) d2, q2⟩
def dats : List DV → Option (List PyData)
  | [] => some []
  | .d x :: r => match dats r with
    | some ds => some (x :: ds)
    | none => none
  | _ :: _ => none
theorem dats_dq {K : PySem.W.Frag} {S : List Cell} {V : Hp} : ∀ {dvs : List DV} {vs : List L2.V} {ds : List PyData}, DVs K S V vs dvs → dats dvs = some ds → DqL K V vs ds
  | [], _, _, .nil, e => by cases e; exact .nil
  | .d x :: r, _, ds, .cons h1 h2, e => by
    unfold dats at e
    split at e
    · rename_i ds' e'
      cases e
      exact .cons h1 (dats_dq h2 e')
    · cases e
  | .o _ :: _, _, _, _, e => by cases e
  | .x _ :: _, _, _, _, e => by cases e
def small (n : Nat) : Bool := decide (n ≤ 1000)
def qTup (fs : PTA) : PTE := fun Γ O Q => fs Γ O fun dvs O1 => match dats dvs, small dvs.length with
  | some ds, true => Q (.d (.tuple ds)) O1
  | _, _ => False
def qLst (fs : PTA) : PTE := fun Γ O Q => fs Γ O fun dvs O1 => match dats dvs, small dvs.length with
  | some ds, true => Q (.d (.list ds)) O1
  | _, _ => False
/-- a list that will change -/
def qLstO (fs : PTA) : PTE := fun Γ O Q => fs Γ O fun dvs O1 => match dats dvs, small dvs.length with
  | some ds, true => Q (.o O1.length) (O1 ++ [.lst ds])
  | _, _ => False
theorem small_line {n m : Nat} (h : small n = true) (e : m = n) : m ≤ sizeLine := by
  have := of_decide_eq_true h
  have hs : sizeLine = 16777216 := sizeLine_eq
  omega
theorem dvs_len {K : PySem.W.Frag} {S : List Cell} {V : Hp} {dvs : List DV} {vs : List L2.V} (h : DVs K S V vs dvs) : vs.length = dvs.length := Paired.length h
theorem ew_tup {x1} (ha : AW X R es fs) : EW X R (.Tuple es x1 pos) (qTup fs) := by
  intro S V H σ Γ Q r sl q
  refine wE_of (pe_tup wA_pa) (wA_mono (ha S V H σ Γ _ r sl q) fun vs H1 ⟨S1, V1, dvs, r1, e1, d1, q1⟩ => ?_)
  dsimp only at q1
  split at q1
  · rename_i ds h1 h2
    have hd := dats_dq d1 h1
    refine ⟨small_line h2 (dvs_len d1), fun p hp => ?_⟩
    exact (PostE.new r1 hp (.tup (SqT.of upd_same) (hd.mono (r1.new hp).2.v)) q1).ext e1
  · exact q1.elim
theorem ew_lst (ha : AW X R es fs) : EW X R (.List es pos) (qLst fs) := by
  intro S V H σ Γ Q r sl q
  refine wE_of (pe_lst wA_pa) (wA_mono (ha S V H σ Γ _ r sl q) fun vs H1 ⟨S1, V1, dvs, r1, e1, d1, q1⟩ => ?_)
  dsimp only at q1
  split at q1
  · rename_i ds h1 h2
    have hd := dats_dq d1 h1
    refine ⟨small_line h2 (dvs_len d1), fun p hp => ?_⟩
    exact (PostE.new r1 hp (.lst upd_same (hd.mono (r1.new hp).2.v)) q1).ext e1
  · exact q1.elim
theorem ew_lstO (ha : AW X R es fs) : EW X R (.List es pos) (qLstO fs) := by
  intro S V H σ Γ Q r sl q
  refine wE_of (pe_lst wA_pa) (wA_mono (ha S V H σ Γ _ r sl q) fun vs H1 ⟨S1, V1, dvs, r1, e1, d1, q1⟩ => ?_)
  dsimp only at q1
  split at q1
  · rename_i ds h1 h2
    have hd := dats_dq d1 h1
    refine ⟨small_line h2 (dvs_len d1), fun p hp => ?_⟩
    obtain ⟨r2, e2⟩ := r1.newOwn (o := .lst vs) (ob := .lst ds) hp ⟨rfl, vs, upd_same, hd⟩
    refine ⟨_, _, .o S1.length, r2, e1.trans e2, ⟨(p, [p], .lst ds), by rw [List.getElem?_append_right (Nat.le_refl _)]; simp, rfl⟩, ?_⟩
    have ho : obs (S1 ++ [(p, [p], Ob.lst ds)]) = obs S1 ++ [.lst ds] := by simp [obs]
    have hl : (obs S1).length = S1.length := by simp [obs]
    rw [ho, ← hl]
    exact q1
  · exact q1.elim
/-! ### places of a list, of a tuple; slices -/
def opIx : VOp := fun x y O Q => match rd O x, rd O y with
  | some (.list ds), some (.int k) => match atI ds k with
    | some e => Q (.d e) O
    | none => False
  | some (.tuple ds), some (.int k) => match atI ds k with
    | some e => Q (.d e) O
    | none => False
  | _, _ => False
theorem ixN_len {α β : Type} {xs : List α} {ys : List β} (h : xs.length = ys.length) (k : Int) : ixN xs.length k = ixN ys.length k := by rw [h]
theorem atI_dq {K : PySem.W.Frag} {V : Hp} {ds : List PyData} {vs : List L2.V} {k : Int} {d : PyData} (h : DqL K V vs ds) (e : atI ds k = some d) : ∃ v, atI vs k = some v ∧ Dq K V v d := by
  unfold atI at e ⊢
  rw [h.length]
  cases q : ixN ds.length k with
  | none => rw [q] at e; cases e
  | some j =>
    rw [q] at e
    exact h.get e
theorem ew_ix (ha : EW X R a f) (hb : EW X R b g) (hs : PlainIx b := by exact fun _ _ => rfl) : EW X R (.Subscript a b pos) (qBin opIx f g) := by
  intro S V H σ Γ Q r sl q
  refine wE_of (pe_ix wX_ix wE_pe wE_pe hs) (wE_mono (ha S V H σ Γ _ r sl q) fun v H1 ⟨S1, V1, da, r1, e1, d1, q1⟩ => ?_)
  refine wE_mono (hb S1 V1 H1 σ Γ _ r1 (sl.mono e1) q1) fun u H2 ⟨S2, V2, db, r2, e2, d2, q2⟩ => ?_
  have d1' := d1.mono e2
  unfold opIx at q2
  dsimp only at q2
  split at q2
  · rename_i ds k h1 h2
    split at q2
    · rename_i z hz
      obtain ⟨p, vs, rfl, hp, hd⟩ := rd_lst r2 d1' h1
      cases dq_int (rd_dq r2 d2 h2)
      obtain ⟨w, hw, hdw⟩ := atI_dq hd hz
      exact ⟨_, ix_list, p, vs, k, w, rfl, rfl, SqL.of hp, hw, PostE.ext (e1.trans e2) (.hd r2 hdw q2)⟩
    · exact q2.elim
  · rename_i ds k h1 h2
    split at q2
    · rename_i z hz
      obtain ⟨p, vs, rfl, hp, hd⟩ := rd_tup r2 d1' h1
      cases dq_int (rd_dq r2 d2 h2)
      obtain ⟨w, hw, hdw⟩ := atI_dq hd hz
      exact ⟨_, ix_tup, p, vs, k, w, rfl, rfl, same_seqT r2.vh hp, hw, PostE.ext (e1.trans e2) (.hd r2 hdw q2)⟩
    · exact q2.elim
  · exact q2.elim
def cutP (ds : List PyData) (lo hi : Option Int) : List PyData := (ds.drop (HT.sIx ds.length 0 lo)).take (HT.sIx ds.length ds.length hi - HT.sIx ds.length 0 lo)
theorem cut_dq {K : PySem.W.Frag} {V : Hp} {ds : List PyData} {vs : List L2.V} {lo hi : Option Int} (h : DqL K V vs ds) : DqL K V (cutV vs lo hi) (cutP ds lo hi) := by
  unfold cutV cutP
  rw [h.length]
  exact (h.drop _).take _
abbrev PTO := PEnv → List Ob → (Option Int → List Ob → Prop) → Prop
def wOp (X : Cx) (e : Option Expr) : TO := fun σ H Q => ∃ t, PO X e t ∧ t σ H Q
theorem wOp_po {e : Option Expr} : PO X e (wOp X e) := ⟨fun pins s σ H Q I ⟨t, h, q⟩ => h.run pins s σ H Q I q⟩
def OW (X : Cx) (R : Fr) (e : Option Expr) (f : PTO) : Prop := ∀ (S : List Cell) (V H : Hp) (σ : L2.St) (Γ : PEnv) (Q : Option Int → List Ob → Prop), Rep X.K R S V H → Slots X.K S V σ Γ → f Γ (obs S) Q → ∀ (P : Option Int → Hp → Prop), (∀ o S' V' H', Rep X.K R S' V' H' → Ext S V S' V' → Q o (obs S') → P o H') → wOp X e σ H P
def qNoPart : PTO := fun _ O Q => Q none O
def qPart (f : PTE) : PTO := fun Γ O Q => f Γ O fun dv O1 => match dv with
  | .d (.int i) => Q (some i) O1
  | _ => False
theorem ow_noPart : OW X R none qNoPart := fun S V H σ Γ Q r sl q P k => ⟨_, po_none, k none S V H r Ext.refl q⟩
theorem ow_part (ha : EW X R a f) : OW X R (some a) (qPart f) := by
  intro S V H σ Γ Q r sl q P k
  refine ⟨_, po_some wE_pe, wE_mono (ha S V H σ Γ _ r sl q) fun v H1 ⟨S1, V1, da, r1, e1, d1, q1⟩ => ?_⟩
  dsimp only at q1
  split at q1
  · cases d1
    exact ⟨_, rfl, k _ S1 V1 H1 r1 e1 q1⟩
  · exact q1.elim
def opSl : DV → Option Int → Option Int → List Ob → QE → Prop := fun x lo hi O Q => match rd O x with
  | some (.list ds) => Q (.d (.list (cutP ds lo hi))) O
  | some (.tuple ds) => Q (.d (.tuple (cutP ds lo hi))) O
  | _ => False
def qSl (f : PTE) (l u : PTO) : PTE := fun Γ O Q => f Γ O fun x O1 => l Γ O1 fun lo O2 => u Γ O2 fun hi O3 => opSl x lo hi O3 Q
def wSl (X : Cx) : L2.V → Option Int → Option Int → Hp → VK → Prop := fun x lo hi H Q => ∃ r, L2.SlR X r ∧ r x lo hi H Q
theorem wSl_sl : L2.SlR X (wSl X) := fun pins s σ H x v vl vu lo hi sl Q I rx hs pl pu ⟨r, hr, q⟩ => hr pins s σ H x v vl vu lo hi sl Q I rx hs pl pu q
theorem ew_slice {lo hi : Option Expr} {l u : PTO} {p2 : Pos} (ha : EW X R a f) (hl : OW X R lo l) (hh : OW X R hi u) : EW X R (.Subscript a (.Slice lo hi none p2) pos) (qSl f l u) := by
  intro S V H σ Γ Q r sl q
  refine wE_of (pe_slice wSl_sl wE_pe wOp_po wOp_po) (wE_mono (ha S V H σ Γ _ r sl q) fun v H1 ⟨S1, V1, da, r1, e1, d1, q1⟩ => ?_)
  refine hl S1 V1 H1 σ Γ _ r1 (sl.mono e1) q1 _ fun o S2 V2 H2 r2 e2 q2 => ?_
  refine hh S2 V2 H2 σ Γ _ r2 (sl.mono (e1.trans e2)) q2 _ fun o' S3 V3 H3 r3 e3 q3 => ?_
  have d3 := d1.mono (e2.trans e3)
  unfold opSl at q3
  split at q3
  · rename_i ds h1
    obtain ⟨p, vs, rfl, hp, hd⟩ := rd_lst r3 d3 h1
    refine ⟨_, sl_list, p, vs, rfl, SqL.of hp, fun w hw => ?_⟩
    exact (PostE.new r3 hw (.lst upd_same ((cut_dq hd).mono (r3.new hw).2.v)) q3).ext ((e1.trans e2).trans e3)
  · rename_i ds h1
    obtain ⟨p, vs, rfl, hp, hd⟩ := rd_tup r3 d3 h1
    refine ⟨_, sl_tupA, p, vs, rfl, same_seqT r3.vh hp, fun hw => ?_, fun _ w hw => ?_⟩
    · refine PostE.ext ((e1.trans e2).trans e3) (.hd r3 (.tup hp hd) ?_)
      have : cutP ds o o' = ds := by
        unfold cutP
        rw [hd.length] at hw
        rw [hw.1, hw.2]
        simp
      rw [this] at q3
      exact q3
    · exact (PostE.new r3 hw (.tup (SqT.of upd_same) ((cut_dq hd).mono (r3.new hw).2.v)) q3).ext ((e1.trans e2).trans e3)
  · exact q3.elim
end
end PW

namespace PW
open PySem PySem.Spec PyProof.Rows L2
/-! ### a part that runs within its own entry -/
abbrev feet (S : List Cell) : List (List Addr) := S.map (·.2.1)
abbrev Fr.here (S : List Cell) (V H : Hp) : Fr := ⟨H, feet S, V⟩
section
variable {K : PySem.W.Frag} {R : Fr} {S S' : List Cell} {V V' H H' : Hp}
theorem feet_get {i : Nat} {fs : List Addr} (h : (feet S)[i]? = some fs) : ∃ c : Cell, S[i]? = some c ∧ c.2.1 = fs := by
  rw [List.getElem?_map] at h
  cases q : S[i]? with
  | none => rw [q] at h; cases h
  | some c => rw [q] at h; exact ⟨c, rfl, Option.some.inj h⟩
theorem feet_mem {b : Addr} (h : b ∈ (feet S).flatten) : ∃ (i : Nat) (c : Cell), S[i]? = some c ∧ b ∈ c.2.1 := by
  obtain ⟨fs, h1, h2⟩ := List.mem_flatten.mp h
  obtain ⟨i, h3⟩ := List.getElem?_of_mem h1
  obtain ⟨c, h4, h5⟩ := feet_get h3
  exact ⟨i, c, h4, by rw [h5]; exact h2⟩
theorem mem_feet {i : Nat} {c : Cell} {b : Addr} (h : S[i]? = some c) (hb : b ∈ c.2.1) : b ∈ (feet S).flatten :=
  List.mem_flatten.mpr ⟨c.2.1, List.mem_map.mpr ⟨c, List.mem_of_getElem? h, rfl⟩, hb⟩
theorem Rep.sub (r : Rep K R S V H) : Rep K (.here S V H) S V H where
  v0 := Same.refl _
  vh := r.vh
  keep := fun b o _ e => e
  f0 := fun b hb => by
    obtain ⟨i, c, h1, h2⟩ := feet_mem hb
    exact (r.foot i c h1 b h2).2.1
  vnew := fun b hb => .inl hb
  own := r.own
  foot := fun i c h b hb => ⟨(r.foot i c h b hb).1, (r.foot i c h b hb).2.1, .inl ⟨c.2.1, by
    show (feet S)[i]? = _
    rw [List.getElem?_map, h]; rfl, hb⟩⟩
  sep := r.sep
/-- an address that the entry knew, and that is none of its objects', is kept -/
theorem Rep.notin (r : Rep K R S V H) {b : Addr} {o : HO} (hb : b ∉ R.F0) (h : R.H0 b = some o) : b ∉ (feet S).flatten := fun q => by
  obtain ⟨i, c, h1, h2⟩ := feet_mem q
  rcases Fr.foot_or (r.foot i c h1 b h2).2.2 with z | z
  · exact hb z
  · rw [h] at z; cases z
theorem Rep.back (r : Rep K R S V H) (r' : Rep K (.here S V H) S' V' H') : Rep K R S' V' H' where
  v0 := r.v0.trans r'.v0
  vh := r'.vh
  keep := fun b o hb e => r'.keep b o (r.notin hb e) (r.keep b o hb e)
  f0 := fun b hb => by
    by_cases q : b ∈ (feet S).flatten
    · exact r'.f0 b q
    · have h := r.f0 b hb
      cases z : H b with
      | none => exact (h z).elim
      | some o => rw [r'.keep b o q z]; simp
  vnew := fun b hb => by
    rcases r'.vnew b hb with z | z | z
    · rcases r.vnew b z with y | y | ⟨xs, y⟩
      · exact .inl y
      · exact .inr (.inl y)
      · exact .inr (.inr ⟨xs, r'.v0 _ _ y⟩)
    · exact .inr (.inl (r.none0 z))
    · exact .inr (.inr z)
  own := r'.own
  foot := fun i c h b hb => by
    obtain ⟨h1, h2, h3⟩ := r'.foot i c h b hb
    refine ⟨h1, h2, ?_⟩
    rcases h3 with ⟨fs, e, hb'⟩ | z
    · obtain ⟨c', e1, e2⟩ := feet_get e
      exact (r.foot i c' e1 b (by rw [e2]; exact hb')).2.2
    · exact .inr (r.none0 z)
  sep := r'.sep
/-! ### some of the objects are handed to a def -/
def putC : List Cell → List Nat → List Cell → List Cell
  | S, i :: is, c :: cs => putC (S.set i c) is cs
  | S, [], cs => S ++ cs
  | S, _ :: _, [] => S
def putAll : List Ob → List Nat → List Ob → List Ob
  | S, i :: is, c :: cs => putAll (S.set i c) is cs
  | S, [], cs => S ++ cs
  | S, _ :: _, [] => S
theorem obs_putC : ∀ (is : List Nat) (S cs : List Cell), obs (putC S is cs) = putAll (obs S) is (obs cs)
  | [], S, cs => by simp [putC, putAll, obs]
  | i :: is, S, [] => by simp [putC, putAll, obs]
  | i :: is, S, c :: cs => by
    show obs (putC (S.set i c) is cs) = putAll ((obs S).set i c.2.2) is (obs cs)
    rw [obs_putC is (S.set i c) cs, obs_set]
theorem putC_get : ∀ (is : List Nat) (S cs : List Cell) (j : Nat) (c : Cell), is.Nodup → is.length ≤ cs.length → (putC S is cs)[j]? = some c →
    (j ∉ is ∧ S[j]? = some c) ∨ (∃ k : Nat, is[k]? = some j ∧ cs[k]? = some c) ∨ (S.length ≤ j ∧ cs[is.length + (j - S.length)]? = some c)
  | [], S, cs, j, c, _, _, e => by
    unfold putC at e
    by_cases hj : j < S.length
    · rw [List.getElem?_append_left hj] at e
      exact .inl ⟨by simp, e⟩
    · rw [List.getElem?_append_right (Nat.le_of_not_lt hj)] at e
      exact .inr (.inr ⟨Nat.le_of_not_lt hj, by simpa using e⟩)
  | i :: is, S, [], j, c, _, l, e => by simp at l
  | i :: is, S, d :: cs, j, c, nd, l, e => by
    unfold putC at e
    have nd' := List.nodup_cons.mp nd
    rcases putC_get is (S.set i d) cs j c nd'.2 (by simpa using l) e with ⟨h1, h2⟩ | ⟨k, h1, h2⟩ | ⟨h1, h2⟩
    · rw [List.getElem?_set] at h2
      by_cases hj : i = j
      · subst hj
        rw [if_pos rfl] at h2
        split at h2
        · cases h2
          exact .inr (.inl ⟨0, rfl, rfl⟩)
        · cases h2
      · rw [if_neg hj] at h2
        exact .inl ⟨fun z => by
          rcases List.mem_cons.mp z with z | z
          · exact hj z.symm
          · exact h1 z, h2⟩
    · exact .inr (.inl ⟨k + 1, by simpa using h1, by simpa using h2⟩)
    · rw [List.length_set] at h1 h2
      refine .inr (.inr ⟨h1, ?_⟩)
      have : (i :: is).length + (j - S.length) = (is.length + (j - S.length)) + 1 := by simp; omega
      rw [this]
      simpa using h2
theorem putC_old : ∀ (is : List Nat) (S cs : List Cell) (j : Nat) (c : Cell), S[j]? = some c → (∀ (k i : Nat) (d : Cell), is[k]? = some i → cs[k]? = some d → ∀ c' : Cell, S[i]? = some c' → d.1 = c'.1) → ∃ c', (putC S is cs)[j]? = some c' ∧ c'.1 = c.1
  | [], S, cs, j, c, e, _ => ⟨c, by unfold putC; rw [List.getElem?_append_left (List.getElem?_eq_some_iff.mp e).1]; exact e, rfl⟩
  | i :: is, S, [], j, c, e, _ => ⟨c, e, rfl⟩
  | i :: is, S, d :: cs, j, c, e, h => by
    unfold putC
    have hj : ∃ c1, (S.set i d)[j]? = some c1 ∧ c1.1 = c.1 := by
      by_cases q : i = j
      · subst q
        exact ⟨d, by rw [List.getElem?_set, if_pos rfl, if_pos (List.getElem?_eq_some_iff.mp e).1], h 0 i d rfl rfl c e⟩
      · exact ⟨c, by rw [List.getElem?_set, if_neg q]; exact e, rfl⟩
    obtain ⟨c1, e1, a1⟩ := hj
    obtain ⟨c2, e2, a2⟩ := putC_old is (S.set i d) cs j c1 e1 (fun k i' d' h1 h2 c' h3 => by
      rw [List.getElem?_set] at h3
      by_cases q : i = i'
      · subst q
        rw [if_pos rfl] at h3
        split at h3
        · rename_i hl
          cases h3
          have h4 := h 0 i d rfl rfl S[i] (List.getElem?_eq_getElem hl)
          have h5 := h (k + 1) i d' (by simpa using h1) (by simpa using h2) S[i] (List.getElem?_eq_getElem hl)
          rw [h5]; exact h4.symm
        · cases h3
      · rw [if_neg q] at h3
        exact h (k + 1) i' d' (by simpa using h1) (by simpa using h2) c' h3)
    exact ⟨c2, e2, a2.trans a1⟩
def pick (S : List Cell) (is : List Nat) : List Cell := is.map fun i => S.getD i (0, [], .dead)
theorem pick_get {is : List Nat} (h : ∀ i ∈ is, i < S.length) {k : Nat} {c : Cell} (e : (pick S is)[k]? = some c) : ∃ i, is[k]? = some i ∧ S[i]? = some c := by
  unfold pick at e
  rw [List.getElem?_map] at e
  cases q : is[k]? with
  | none => rw [q] at e; cases e
  | some i =>
    rw [q] at e
    have hi := h i (List.mem_of_getElem? q)
    have e' : S.getD i (0, [], .dead) = c := Option.some.inj e
    rw [List.getD_eq_getElem?_getD, List.getElem?_eq_getElem hi] at e'
    exact ⟨i, rfl, by rw [List.getElem?_eq_getElem hi]; exact congrArg some e'⟩
theorem get_pick {is : List Nat} {k i : Nat} {c : Cell} (h1 : is[k]? = some i) (h2 : S[i]? = some c) : (pick S is)[k]? = some c := by
  unfold pick
  rw [List.getElem?_map, h1]
  show some (S.getD i _) = some c
  rw [List.getD_eq_getElem?_getD, h2]; rfl
theorem Rep.pick (r : Rep K R S V H) {is : List Nat} (nd : is.Nodup) (hl : ∀ i ∈ is, i < S.length) : Rep K (.here (PW.pick S is) V H) (PW.pick S is) V H where
  v0 := Same.refl _
  vh := r.vh
  keep := fun b o _ e => e
  f0 := fun b hb => by
    obtain ⟨k, c, h1, h2⟩ := feet_mem hb
    obtain ⟨i, _, h3⟩ := pick_get hl h1
    exact (r.foot i c h3 b h2).2.1
  vnew := fun b hb => .inl hb
  own := fun k c h => by
    obtain ⟨i, _, h3⟩ := pick_get hl h
    exact r.own i c h3
  foot := fun k c h b hb => by
    obtain ⟨i, _, h3⟩ := pick_get hl h
    exact ⟨(r.foot i c h3 b hb).1, (r.foot i c h3 b hb).2.1, .inl ⟨c.2.1, by
      show (feet _)[k]? = _
      rw [List.getElem?_map, h]; rfl, hb⟩⟩
  sep := fun k l c c' hkl h h' => by
    obtain ⟨i, h2, h3⟩ := pick_get hl h
    obtain ⟨j, h4, h5⟩ := pick_get hl h'
    refine r.sep i j c c' (fun z => hkl ?_) h3 h5
    subst z
    have hk := (List.getElem?_eq_some_iff.mp h2)
    have hl' := (List.getElem?_eq_some_iff.mp h4)
    obtain ⟨a1, a2⟩ := hk
    obtain ⟨b1, b2⟩ := hl'
    exact (List.getElem_inj nd).mp (a2.trans b2.symm)
/-- behind the call -/
theorem Rep.unpick (r : Rep K R S V H) {is : List Nat} (nd : is.Nodup) (hl : ∀ i ∈ is, i < S.length) (hle : is.length ≤ S'.length) (r' : Rep K (.here (PW.pick S is) V H) S' V' H') (e : Ext (PW.pick S is) V S' V') :
    Rep K R (putC S is S') V' H' ∧ Ext S V (putC S is S') V' := by
  have notin : ∀ {b : Addr} {o : HO}, b ∉ R.F0 → R.H0 b = some o → b ∉ (feet (PW.pick S is)).flatten := fun {b o} hb h q => by
    obtain ⟨k, c, h1, h2⟩ := feet_mem q
    obtain ⟨i, _, h3⟩ := pick_get hl h1
    rcases Fr.foot_or (r.foot i c h3 b h2).2.2 with z | z
    · exact hb z
    · rw [h] at z; cases z
  -- a cell that was not handed over keeps its objects
  have old : ∀ {j : Nat} {c : Cell}, j ∉ is → S[j]? = some c → ∀ b ∈ c.2.1, H' b = H b ∧ b ∉ (feet (PW.pick S is)).flatten := fun {j c} hj h b hb => by
    have n : b ∉ (feet (PW.pick S is)).flatten := fun q => by
      obtain ⟨k, c', h1, h2⟩ := feet_mem q
      obtain ⟨i, h4, h3⟩ := pick_get hl h1
      exact r.sep j i c c' (fun z => hj (by rw [z]; exact List.mem_of_getElem? h4)) h h3 b hb h2
    refine ⟨?_, n⟩
    cases z : H b with
    | none => exact ((r.foot j c h b hb).2.1 z).elim
    | some o => exact r'.keep b o n z
  have new : ∀ {k : Nat} {c : Cell}, S'[k]? = some c → ∀ b ∈ c.2.1, (∃ i c', is[k]? = some i ∧ S[i]? = some c' ∧ b ∈ c'.2.1) ∨ H b = none := fun {k c} h b hb => by
    rcases (r'.foot k c h b hb).2.2 with ⟨fs, h1, h2⟩ | z
    · obtain ⟨c', h3, h4⟩ := feet_get h1
      obtain ⟨i, h5, h6⟩ := pick_get hl h3
      exact .inl ⟨i, c', h5, h6, by rw [h4]; exact h2⟩
    · exact .inr z
  have get : ∀ {j : Nat} {c : Cell}, (putC S is S')[j]? = some c → (j ∉ is ∧ S[j]? = some c) ∨ (∃ k, S'[k]? = some c ∧ (is[k]? = some j ∨ (S.length ≤ j ∧ k = is.length + (j - S.length)))) := fun {j c} h => by
    rcases putC_get is S S' j c nd hle h with q | ⟨k, h1, h2⟩ | ⟨h1, h2⟩
    · exact .inl q
    · exact .inr ⟨k, h2, .inl h1⟩
    · exact .inr ⟨_, h2, .inr ⟨h1, rfl⟩⟩
  refine ⟨⟨r.v0.trans r'.v0, r'.vh, fun b o hb h => r'.keep b o (notin hb h) (r.keep b o hb h), fun b hb => ?_, fun b hb => ?_, fun j c h => ?_, fun j c h b hb => ?_, fun i j c c' hij h h' b hb hb' => ?_⟩, ⟨e.v, fun j c h => putC_old is S S' j c h fun k i d h1 h2 c' h3 => ?_⟩⟩
  · by_cases q : b ∈ (feet (PW.pick S is)).flatten
    · exact r'.f0 b q
    · cases z : H b with
      | none => exact (r.f0 b hb z).elim
      | some o => rw [r'.keep b o q z]; simp
  · rcases r'.vnew b hb with z | z | z
    · rcases r.vnew b z with y | y | ⟨xs, y⟩
      · exact .inl y
      · exact .inr (.inl y)
      · exact .inr (.inr ⟨xs, r'.v0 _ _ y⟩)
    · exact .inr (.inl (r.none0 z))
    · exact .inr (.inr z)
  · rcases get h with ⟨h1, h2⟩ | ⟨k, h1, _⟩
    · exact (r.own j c h2).stay e.v r'.vh fun b hb => (old h1 h2 b hb).1
    · exact r'.own k c h1
  · rcases get h with ⟨h1, h2⟩ | ⟨k, h1, hk⟩
    · obtain ⟨f1, f2, f3⟩ := r.foot j c h2 b hb
      refine ⟨?_, by rw [(old h1 h2 b hb).1]; exact f2, f3⟩
      cases z : V' b with
      | none => rfl
      | some o =>
        rcases r'.vnew b (by rw [z]; simp) with y | y | ⟨xs, y⟩
        · exact (y f1).elim
        · exact (f2 y).elim
        · have y2 := r'.vh _ _ y
          rw [(old h1 h2 b hb).1] at y2
          exact ((r.own j c h2).notup b hb xs y2).elim
    · obtain ⟨f1, f2, _⟩ := r'.foot k c h1 b hb
      refine ⟨f1, f2, ?_⟩
      rcases new h1 b hb with ⟨i, c', h3, h4, h5⟩ | z
      · rcases hk with hk | ⟨hk1, hk2⟩
        · rw [hk] at h3
          cases h3
          exact (r.foot j c' h4 b h5).2.2
        · have := (List.getElem?_eq_some_iff.mp h3).1
          omega
      · exact .inr (r.none0 z)
  · have one : ∀ {i j : Nat} {c c' : Cell}, i ∉ is → S[i]? = some c → (∃ k, S'[k]? = some c' ∧ (is[k]? = some j ∨ (S.length ≤ j ∧ k = is.length + (j - S.length)))) → ∀ b ∈ c.2.1, b ∉ c'.2.1 := fun {i j c c'} hi h ⟨k, h1, _⟩ b hb hb' => by
      rcases new h1 b hb' with ⟨i', c2, h3, h4, h5⟩ | z
      · exact r.sep i i' c c2 (fun q => hi (by rw [q]; exact List.mem_of_getElem? h3)) h h4 b hb h5
      · exact (r.foot i c h b hb).2.1 z
    rcases get h with ⟨h1, h2⟩ | ⟨k, h1, hk⟩
    · rcases get h' with ⟨h3, h4⟩ | q
      · exact r.sep i j c c' hij h2 h4 b hb hb'
      · exact one h1 h2 q b hb hb'
    · rcases get h' with ⟨h3, h4⟩ | ⟨k', h3, hk'⟩
      · exact one h3 h4 ⟨k, h1, hk⟩ b hb' hb
      · refine r'.sep k k' c c' (fun z => hij ?_) h1 h3 b hb hb'
        subst z
        rcases hk with hk | ⟨hk1, hk2⟩
        · rcases hk' with hk' | ⟨hk1', hk2'⟩
          · rw [hk] at hk'; exact Option.some.inj hk'
          · have := (List.getElem?_eq_some_iff.mp hk).1
            omega
        · rcases hk' with hk' | ⟨hk1', hk2'⟩
          · have := (List.getElem?_eq_some_iff.mp hk').1
            omega
          · omega
  · obtain ⟨d', h4, h5⟩ := e.s k c' (get_pick h1 h3)
    rw [h2] at h4
    cases h4
    exact h5
end
/-! ### a def's promise, over pure data -/
abbrev PSp := List DV → List Ob → QE → Prop
def liftSp (K : PySem.W.Frag) (psp : PSp) : Sp := fun vs H Q _ => ∃ (S : List Cell) (V : Hp) (dvs : List DV) (PQ : QE), Rep K (.here S V H) S V H ∧ DVs K S V vs dvs ∧ psp dvs (obs S) PQ ∧
  ∀ v H' S' V' dv, Rep K (.here S V H) S' V' H' → Ext S V S' V' → DVat K S' V' v dv → PQ dv (obs S') → S.length ≤ S'.length → Q v H'
def oids : List DV → List Nat
  | [] => []
  | .o i :: r => i :: oids r
  | .d _ :: r => oids r
  | .x _ :: r => oids r
def ren : Nat → List DV → List DV
  | _, [] => []
  | k, .o _ :: r => .o k :: ren (k + 1) r
  | k, .d x :: r => .d x :: ren k r
  | k, .x ψ :: r => .x ψ :: ren k r
def getAll (O : List Ob) (is : List Nat) : List Ob := is.map fun i => O.getD i .dead
def backD (is : List Nat) (n : Nat) : DV → DV
  | .d x => .d x
  | .x ψ => .x ψ
  | .o k => if k < is.length then .o (is.getD k 0) else .o (n + (k - is.length))
def nodupB : List Nat → Bool
  | [] => true
  | i :: r => !r.contains i && nodupB r
theorem nodupB_ok : ∀ {is : List Nat}, nodupB is = true → is.Nodup
  | [], _ => List.nodup_nil
  | i :: r, h => by
    unfold nodupB at h
    rw [Bool.and_eq_true] at h
    exact List.nodup_cons.mpr ⟨fun z => by simp [z] at h, nodupB_ok h.2⟩
def qApp (psp : PSp) (dvs : List DV) (O : List Ob) (Q : QE) : Prop := nodupB (oids dvs) = true ∧ psp (ren 0 dvs) (getAll O (oids dvs)) fun dv O' => Q (backD (oids dvs) O.length dv) (putAll O (oids dvs) O')
section
variable {K : PySem.W.Frag} {R : Fr} {S S' : List Cell} {V V' H H' : Hp}
theorem oids_lt : ∀ {dvs : List DV} {vs : List L2.V}, DVs K S V vs dvs → ∀ i ∈ oids dvs, i < S.length
  | [], _, .nil, i, h => by cases h
  | .o j :: r, _, .cons ⟨c, h1, _⟩ h2, i, h => by
    rcases List.mem_cons.mp h with rfl | h
    · exact (List.getElem?_eq_some_iff.mp h1).1
    · exact oids_lt h2 i h
  | .d _ :: r, _, .cons _ h2, i, h => oids_lt h2 i h
  | .x _ :: r, _, .cons _ h2, i, h => oids_lt h2 i h
theorem ren_ok : ∀ {dvs : List DV} {vs : List L2.V} (pre : List Nat), DVs K S V vs dvs → DVs K (PW.pick S (pre ++ oids dvs)) V vs (ren pre.length dvs)
  | [], _, pre, .nil => .nil
  | .o j :: r, _, pre, .cons ⟨c, h1, h3⟩ h2 => by
    have ih := ren_ok (pre ++ [j]) h2
    rw [List.append_assoc, List.length_append] at ih
    refine .cons ⟨c, ?_, h3⟩ ih
    exact get_pick (i := j) (by rw [List.getElem?_append_right (Nat.le_refl _)]; simp [oids]) h1
  | .d _ :: r, _, pre, .cons h1 h2 => .cons h1 (ren_ok pre h2)
  | .x _ :: r, _, pre, .cons h1 h2 => .cons h1 (ren_ok pre h2)
theorem getAll_obs (is : List Nat) : getAll (obs S) is = obs (PW.pick S is) := by
  unfold getAll PW.pick obs
  rw [List.map_map]
  refine List.map_congr_left fun i _ => ?_
  show (S.map (·.2.2)).getD i .dead = (S.getD i (0, [], .dead)).2.2
  rw [List.getD_eq_getElem?_getD, List.getD_eq_getElem?_getD, List.getElem?_map]
  cases h : S[i]? <;> simp
theorem backD_ok {is : List Nat} {v : L2.V} (hl : ∀ i ∈ is, i < S.length) (nd : is.Nodup) (e : Ext (PW.pick S is) V S' V') (hle : is.length ≤ S'.length) : ∀ {dv : DV}, DVat K S' V' v dv → DVat K (putC S is S') V' v (backD is S.length dv)
  | .d x, h => h
  | .x ψ, h => h
  | .o k, ⟨c, h1, h2⟩ => by
    show DVat K (putC S is S') V' v (if k < is.length then .o (is.getD k 0) else .o (S.length + (k - is.length)))
    by_cases hk : k < is.length
    · rw [if_pos hk]
      have hg : is.getD k 0 = is[k] := by rw [List.getD_eq_getElem?_getD, List.getElem?_eq_getElem hk]; rfl
      have hi := hl is[k] (List.getElem_mem hk)
      obtain ⟨c2, h3, h4⟩ := e.s k S[is[k]] (get_pick (List.getElem?_eq_getElem hk) (List.getElem?_eq_getElem hi))
      rw [h1] at h3; cases h3
      obtain ⟨c3, h5, h6⟩ := putC_old is S S' is[k] S[is[k]] (List.getElem?_eq_getElem hi) fun k' i' d' q1 q2 c' q3 => by
        obtain ⟨d2, q4, q5⟩ := e.s k' c' (get_pick q1 q3)
        rw [q2] at q4; cases q4; exact q5
      rw [hg]
      exact ⟨c3, h5, by rw [h2, h6, h4]⟩
    · rw [if_neg hk]
      refine ⟨c, ?_, h2⟩
      have key : ∀ (is : List Nat) (S cs : List Cell) (m : Nat) (c : Cell), is.length ≤ cs.length → cs[is.length + m]? = some c → (putC S is cs)[S.length + m]? = some c := by
        intro is
        induction is with
        | nil =>
          intro S cs m c _ h
          unfold putC
          rw [List.getElem?_append_right (by omega)]
          have : S.length + m - S.length = m := by omega
          rw [this]; simpa using h
        | cons i is ih =>
          intro S cs m c hl h
          cases cs with
          | nil => simp at hl
          | cons d cs =>
            unfold putC
            have := ih (S.set i d) cs m c (by simpa using hl) (by
              have e : (i :: is).length + m = (is.length + m) + 1 := by simp; omega
              rw [e] at h; simpa using h)
            rw [List.length_set] at this
            exact this
      exact key is S S' (k - is.length) c hle (by rw [Nat.add_sub_cancel' (Nat.le_of_not_lt hk)]; exact h1)
/-- what a call by such a promise asks -/
theorem app_ok {psp : PSp} {dvs : List DV} {vs : List L2.V} {Q : QE} {E : XK} (r : Rep K R S V H) (d : DVs K S V vs dvs) (q : qApp psp dvs (obs S) Q) : liftSp K psp vs H (PostE K R S V Q) E := by
  obtain ⟨nd, q⟩ := q
  have nd := nodupB_ok nd
  have hl := oids_lt d
  have hd := ren_ok [] d
  refine ⟨PW.pick S (oids dvs), V, ren 0 dvs, _, r.pick nd hl, hd, by rw [← getAll_obs]; exact q, fun v H' S' V' dv r' e d' q' hs => ?_⟩
  have hle : (oids dvs).length ≤ S'.length := by
    unfold PW.pick at hs
    rw [List.length_map] at hs
    exact hs
  obtain ⟨r2, e2⟩ := r.unpick nd hl hle r' e
  refine ⟨_, _, _, r2, e2, backD_ok hl nd e hle d', ?_⟩
  rw [obs_putC]
  have : (obs S).length = S.length := List.length_map ..
  rw [this] at q'
  exact q'
end
section
variable {X : Cx} {R : Fr} {e o : Expr} {es : List Expr} {fs : PTA} {f : PTE} {pos p : Pos}
def qCall (psp : PSp) (fs : PTA) : PTE := fun Γ O Q => fs Γ O fun dvs O1 => qApp psp dvs O1 Q
theorem ew_call {k : Nat} {fa : Addr} {fd : FuncData} {ps : List Str} {psp : PSp} {x : Str} (F : FnOk X.prog X.w X.K X.mg X.base CX0 k fa fd ps (liftSp X.K psp)) (hr : Room k X.A) (hm : X.mg x = some (.ref fa)) (hk : PySem.W.keepIn X.K (.ref fa) = true) (hb : Binds X.K fd ps [])
    (ha : AW X R (e :: es) fs) (hg : Gl X x := by rfl) (hdb : (x == ("__debug__" : Str)) = false := by decide) (he : starEach (e :: es) X.env = (false, eval e X.env) :: starEach es X.env := by rfl) (hpl : (backTo pos (starEach es X.env)).any (·.1) = false := by rfl) :
    EW X R (.Call (.Name x p) (e :: es) [] pos) (qCall psp fs) := by
  intro S V H σ Γ Q r sl q
  refine wE_of (pe_call F hr hg hm hk hb .nil pass0 wA_pa hdb he hpl) (wA_mono (ha S V H σ Γ _ r sl q) fun vs H1 ⟨S1, V1, dvs, r1, e1, d1, q1⟩ => ?_)
  have h := app_ok (E := E0) r1 d1 q1
  rw [List.append_nil]
  obtain ⟨S2, V2, dvs2, PQ, h1, h2, h3, h4⟩ := h
  exact ⟨S2, V2, dvs2, PQ, h1, h2, h3, fun v H' S' V' dv a b c d g => PostE.ext e1 (h4 v H' S' V' dv a b c d g)⟩
end
/-- the end of a def: what it returns, the objects that it was handed -/
def RetN (m : Nat) (PQ : QE) : QE := fun dv O => match dv with
  | .d x => PQ (.d x) (O.take m)
  | .x ψ => PQ (.x ψ) (O.take m)
  | .o j => (j < m ∧ PQ (.o j) (O.take m)) ∨ (m ≤ j ∧ ∃ ob, O[j]? = some ob ∧ PQ (.o m) (O.take m ++ [ob])) ∨ (m ≤ j ∧ ∃ ds, O[j]? = some (.lst ds) ∧ PQ (.d (.list ds)) (O.take m))
section
variable {K : PySem.W.Frag} {R : Fr} {S S' : List Cell} {V V' H H' : Hp}
theorem Rep.sel (r : Rep K R S V H) {T : List Cell} (h : ∀ (i : Nat) (c : Cell), T[i]? = some c → ∃ j, S[j]? = some c ∧ ((i < R.Fs.length ∧ j = i) ∨ R.Fs.length ≤ j)) (inj : ∀ (i i' : Nat) (c c' : Cell) (j : Nat), T[i]? = some c → T[i']? = some c' → S[j]? = some c → S[j]? = some c' → i = i' ∨ ∀ b ∈ c.2.1, b ∉ c'.2.1) : Rep K R T V H := by
  refine ⟨r.v0, r.vh, r.keep, r.f0, r.vnew, fun i c e => ?_, fun i c e b hb => ?_, fun i i' c c' hn e e' b hb => ?_⟩
  · obtain ⟨j, h1, _⟩ := h i c e
    exact r.own j c h1
  · obtain ⟨j, h1, h2⟩ := h i c e
    obtain ⟨f1, f2, f3⟩ := r.foot j c h1 b hb
    refine ⟨f1, f2, ?_⟩
    rcases h2 with ⟨_, rfl⟩ | h2
    · exact f3
    · rcases f3 with ⟨fs, z, _⟩ | z
      · have := (List.getElem?_eq_some_iff.mp z).1
        omega
      · exact .inr z
  · obtain ⟨j, h1, _⟩ := h i c e
    obtain ⟨j', h3, _⟩ := h i' c' e'
    by_cases q : j = j'
    · subst q
      rcases inj i i' c c' j e e' h1 h3 with z | z
      · exact (hn z).elim
      · exact z b hb
    · exact r.sep j j' c c' q h1 h3 b hb
theorem Rep.take (r : Rep K R S V H) (m : Nat) : Rep K R (S.take m) V H := by
  have g : ∀ {i : Nat} {c : Cell}, (S.take m)[i]? = some c → S[i]? = some c := fun {i c} e => by
    rw [List.getElem?_take] at e
    split at e
    · exact e
    · cases e
  exact ⟨r.v0, r.vh, r.keep, r.f0, r.vnew, fun i c e => r.own i c (g e), fun i c e => r.foot i c (g e), fun i j c c' hn e e' => r.sep i j c c' hn (g e) (g e')⟩
theorem Rep.takeOne (r : Rep K R S V H) {m j : Nat} {c : Cell} (hm : R.Fs.length = m) (hj : S[j]? = some c) (hmj : m ≤ j) : Rep K R (S.take m ++ [c]) V H := by
  have hlen : m ≤ S.length := by have := (List.getElem?_eq_some_iff.mp hj).1; omega
  have g : ∀ {i : Nat} {d : Cell}, (S.take m ++ [c])[i]? = some d → (i < m ∧ S[i]? = some d) ∨ (i = m ∧ d = c) := fun {i d} e => by
    by_cases hi : i < m
    · rw [List.getElem?_append_left (by rw [List.length_take]; omega), List.getElem?_take, if_pos hi] at e
      exact .inl ⟨hi, e⟩
    · rw [List.getElem?_append_right (by rw [List.length_take]; omega)] at e
      have hl := (List.getElem?_eq_some_iff.mp e).1
      simp only [List.length_take, List.length_singleton] at hl
      have : i = m := by omega
      subst this
      have z : i - (S.take i).length = 0 := by rw [List.length_take]; omega
      rw [z] at e
      simp at e
      exact .inr ⟨rfl, e.symm⟩
  refine r.sel (fun i d e => ?_) (fun i i' d d' k e e' h h' => ?_)
  · rcases g e with ⟨h1, h2⟩ | ⟨h1, h2⟩
    · exact ⟨i, h2, .inl ⟨by omega, rfl⟩⟩
    · subst h2
      exact ⟨j, hj, .inr (by omega)⟩
  · rw [h] at h'; cases h'
    rcases g e with ⟨h1, h2⟩ | ⟨h1, h2⟩
    · rcases g e' with ⟨h3, h4⟩ | ⟨h3, h4⟩
      · by_cases q : i = i'
        · exact .inl q
        · exact .inr (r.sep i i' d d q h2 h4)
      · subst h4
        exact .inr (r.sep i j d d (by omega) h2 hj)
    · subst h2
      rcases g e' with ⟨h3, h4⟩ | ⟨h3, h4⟩
      · exact .inr (r.sep j i' d d (by omega) hj h4)
      · exact .inl (h1.trans h3.symm)
end
end PW

namespace PW
open PySem PySem.Spec PyProof.Rows L2
/-! ### statements -/
section
variable {X : Cx} {σ : L2.St} {H : Hp}
def wS (X : Cx) (st : Stmt) : TS := fun D σ H => ∀ pins s, Inv X pins σ H s → wpAny (model X.prog X.w) X.A (exec st X.env) (SP X pins D) X.xe s
theorem wS_ps {st : Stmt} : PS X st (wS X st) := ⟨fun pins s σ H D I h => h pins s I⟩
theorem wS_of {st : Stmt} {t : TS} {D : Ends} (h : PS X st t) (q : t D σ H) : wS X st D σ H := fun pins s I => h.run pins s σ H D I q
def wB (X : Cx) (sts : List Stmt) : TS := fun D σ H => ∀ pins s, Inv X pins σ H s → wpAny (model X.prog X.w) X.A (execs sts X.env) (SP X pins D) X.xe s
theorem wB_pss {sts : List Stmt} : PSs X sts (wB X sts) := ⟨fun pins s σ H D I h => h pins s I⟩
theorem wB_of {sts : List Stmt} {t : TS} {D : Ends} (h : PSs X sts t) (q : t D σ H) : wB X sts D σ H := fun pins s I => h.run pins s σ H D I q
def wG (X : Cx) (tg : Expr) : TG := fun v σ H Q => ∀ pins s u, Inv X pins σ H s → RelV v u → wpAny (model X.prog X.w) X.A (assign tg X.env u) (fun _ s' => ∃ σ' H', Inv X pins σ' H' s' ∧ Q σ' H') X.xe s
theorem wG_pg {tg : Expr} : PG X tg (wG X tg) := ⟨fun pins s σ H v u Q I r h => h pins s u I r⟩
theorem wG_of {tg : Expr} {t : TG} {v : L2.V} {Q : L2.St → Hp → Prop} (h : PG X tg t) (q : t v σ H Q) : wG X tg v σ H Q := fun pins s u I r => h.run pins s σ H v u Q I r q
theorem wG_mono {tg : Expr} {v : L2.V} {Q Q' : L2.St → Hp → Prop} (h : wG X tg v σ H Q) (k : ∀ σ H, Q σ H → Q' σ H) : wG X tg v σ H Q' := fun pins s u I r => thn (h pins s u I r) fun _ s' ⟨σ', H', I', q⟩ => ⟨σ', H', I', k _ _ q⟩
def wGs (X : Cx) (ts : List Expr) : TGs := fun vs σ H Q => ∀ pins s us, Inv X pins σ H s → Vals vs us → wpAny (model X.prog X.w) X.A (assignInOrder ((assignEach ts X.env).map (·.2)) us) (fun _ s' => ∃ σ' H', Inv X pins σ' H' s' ∧ Q σ' H') X.xe s
theorem wGs_pgs {ts : List Expr} : PGs X ts (wGs X ts) := ⟨fun pins s σ H vs us Q I r h => h pins s us I r⟩
theorem wGs_of {ts : List Expr} {t : TGs} {vs : List L2.V} {Q : L2.St → Hp → Prop} (h : PGs X ts t) (q : t vs σ H Q) : wGs X ts vs σ H Q := fun pins s us I r => h.run pins s σ H vs us Q I r q
theorem wGs_mono {ts : List Expr} {vs : List L2.V} {Q Q' : L2.St → Hp → Prop} (h : wGs X ts vs σ H Q) (k : ∀ σ H, Q σ H → Q' σ H) : wGs X ts vs σ H Q' := fun pins s us I r => thn (h pins s us I r) fun _ s' ⟨σ', H', I', q⟩ => ⟨σ', H', I', k _ _ q⟩
def wI (X : Cx) (tg iter : Expr) : TI := fun σ H P => ∃ wi, PI X tg iter wi ∧ wi σ H P
theorem wI_pi {tg iter : Expr} : PI X tg iter (wI X tg iter) := ⟨fun pins s σ H P I ⟨wi, h, q⟩ => h.run pins s σ H P I q⟩
end
abbrev QN := PEnv → List Ob → Prop
structure PEnds where
  nx : QN
  rt : QE
  bk : QN := fun _ _ => False
  ct : QN := fun _ _ => False
abbrev PTS := PEnds → PEnv → List Ob → Prop
abbrev PTG := DV → PEnv → List Ob → QN → Prop
def LiftN (K : PySem.W.Frag) (R : Fr) (S : List Cell) (V : Hp) (q : QN) : L2.St → Hp → Prop := fun σ' H' => ∃ S' V' Γ', Rep K R S' V' H' ∧ Ext S V S' V' ∧ Slots K S' V' σ' Γ' ∧ q Γ' (obs S')
/-- what is wanted behind, lifted -/
structure EndsOk (K : PySem.W.Frag) (R : Fr) (S : List Cell) (V : Hp) (PD : PEnds) (D : Ends) : Prop where
  nx : ∀ σ' H', LiftN K R S V PD.nx σ' H' → D.nx σ' H'
  rt : ∀ v H', PostE K R S V PD.rt v H' → D.rt v H'
  bk : ∀ σ' H', LiftN K R S V PD.bk σ' H' → D.bk σ' H'
  ct : ∀ σ' H', LiftN K R S V PD.ct σ' H' → D.ct σ' H'
section
variable {K : PySem.W.Frag} {R : Fr} {S S' : List Cell} {V V' : Hp}
theorem LiftN.ext {q : QN} {σ : L2.St} {H : Hp} (e : Ext S V S' V') (h : LiftN K R S' V' q σ H) : LiftN K R S V q σ H := by
  obtain ⟨S2, V2, Γ, r, e2, s, z⟩ := h
  exact ⟨S2, V2, Γ, r, e.trans e2, s, z⟩
theorem EndsOk.ext {PD : PEnds} {D : Ends} (h : EndsOk K R S V PD D) (e : Ext S V S' V') : EndsOk K R S' V' PD D :=
  ⟨fun σ H z => h.nx σ H (z.ext e), fun v H z => h.rt v H (z.ext e), fun σ H z => h.bk σ H (z.ext e), fun σ H z => h.ct σ H (z.ext e)⟩
end
def SW (X : Cx) (R : Fr) (st : Stmt) (F : PTS) : Prop := ∀ (S : List Cell) (V H : Hp) (σ : L2.St) (Γ : PEnv) (PD : PEnds) (D : Ends), Rep X.K R S V H → Slots X.K S V σ Γ → F PD Γ (obs S) → EndsOk X.K R S V PD D → wS X st D σ H
def BW (X : Cx) (R : Fr) (sts : List Stmt) (F : PTS) : Prop := ∀ (S : List Cell) (V H : Hp) (σ : L2.St) (Γ : PEnv) (PD : PEnds) (D : Ends), Rep X.K R S V H → Slots X.K S V σ Γ → F PD Γ (obs S) → EndsOk X.K R S V PD D → wB X sts D σ H
def GW (X : Cx) (R : Fr) (tg : Expr) (g : PTG) : Prop := ∀ (S : List Cell) (V H : Hp) (σ : L2.St) (Γ : PEnv) (v : L2.V) (dv : DV) (Q : QN), Rep X.K R S V H → Slots X.K S V σ Γ → DVat X.K S V v dv → g dv Γ (obs S) Q → wG X tg v σ H (LiftN X.K R S V Q)
abbrev PTGs := List PyData → PEnv → List Ob → QN → Prop
def GsW (X : Cx) (R : Fr) (tgs : List Expr) (g : PTGs) : Prop := ∀ (S : List Cell) (V H : Hp) (σ : L2.St) (Γ : PEnv) (vs : List L2.V) (ds : List PyData) (Q : QN), Rep X.K R S V H → Slots X.K S V σ Γ → DqL X.K V vs ds → g ds Γ (obs S) Q → wGs X tgs vs σ H (LiftN X.K R S V Q)
section
variable {X : Cx} {R : Fr} {st : Stmt} {rest : List Stmt} {F G : PTS} {f g : PTE} {e : Expr} {pos : Pos}
def qNext : PTS := fun PD Γ O => PD.nx Γ O
def qSeq (F G : PTS) : PTS := fun PD Γ O => F { PD with nx := G PD } Γ O
theorem bw_nil : BW X R [] qNext := fun S V H σ Γ PD D r sl q k => wB_of pss_nil (k.nx σ H ⟨S, V, Γ, r, Ext.refl, sl, q⟩)
theorem bw_cons (h1 : SW X R st F) (h2 : BW X R rest G) : BW X R (st :: rest) (qSeq F G) := by
  intro S V H σ Γ PD D r sl q k
  refine wB_of (pss_cons wS_ps wB_pss) ?_
  show wS X st { D with nx := wB X rest D } σ H
  refine h1 S V H σ Γ _ _ r sl q ⟨fun σ' H' ⟨S', V', Γ', r', e', sl', q'⟩ => ?_, k.rt, k.bk, k.ct⟩
  exact h2 S' V' H' σ' Γ' PD D r' sl' q' (k.ext e')
theorem bw_one (h1 : SW X R st F) : BW X R [st] F := fun S V H σ Γ PD D r sl q k => wB_of (pss_one wS_ps) (h1 S V H σ Γ PD D r sl q k)
theorem sw_pass : SW X R (.Pass pos) qNext := fun S V H σ Γ PD D r sl q k => wS_of ps_pass (k.nx σ H ⟨S, V, Γ, r, Ext.refl, sl, q⟩)
def qBreak : PTS := fun PD Γ O => PD.bk Γ O
def qCont : PTS := fun PD Γ O => PD.ct Γ O
theorem sw_break : SW X R (.Break pos) qBreak := fun S V H σ Γ PD D r sl q k => wS_of ps_break (k.bk σ H ⟨S, V, Γ, r, Ext.refl, sl, q⟩)
theorem sw_continue : SW X R (.Continue pos) qCont := fun S V H σ Γ PD D r sl q k => wS_of ps_continue (k.ct σ H ⟨S, V, Γ, r, Ext.refl, sl, q⟩)
theorem sw_doc {x j pos pos'} : SW X R (.Expr (.Constant (.str x) j pos) pos') qNext := fun S V H σ Γ PD D r sl q k => wS_of ps_doc (k.nx σ H ⟨S, V, Γ, r, Ext.refl, sl, q⟩)
def qDrop (f : PTE) : PTS := fun PD Γ O => f Γ O fun _ O1 => PD.nx Γ O1
theorem sw_expr (he : EW X R e f) (hs : swapsWith e none pos.line X.env = pure false := by rfl) : SW X R (.Expr e pos) (qDrop f) := by
  intro S V H σ Γ PD D r sl q k
  refine wS_of (ps_expr wE_pe hs) (wE_mono (he S V H σ Γ _ r sl q) fun v H1 ⟨S1, V1, dv, r1, e1, d1, q1⟩ => ?_)
  exact k.nx σ H1 ⟨S1, V1, Γ, r1, e1, sl.mono e1, q1⟩
def qRet (f : PTE) : PTS := fun PD Γ O => f Γ O PD.rt
theorem sw_ret (he : EW X R e f) : SW X R (.Return (some e) pos) (qRet f) := by
  intro S V H σ Γ PD D r sl q k
  exact wS_of (ps_ret wE_pe) (wE_mono (he S V H σ Γ _ r sl q) fun v H1 p => k.rt v H1 p)
def qRetN : PTS := fun PD _ O => PD.rt (.d .none) O
theorem sw_retN : SW X R (.Return none pos) qRetN := fun S V H σ Γ PD D r sl q k => wS_of ps_retN (k.rt _ H (.hd r .non q))
def qIfS (t : PTT) (F G : PTS) : PTS := fun PD Γ O => t Γ O fun b O1 => match b with
  | true => F PD Γ O1
  | false => G PD Γ O1
theorem sw_if {c : Expr} {a b : List Stmt} {t : PTT} (hc : TW X R c t) (ha : BW X R a F) (hb : BW X R b G) : SW X R (.If c a b pos) (qIfS t F G) := by
  intro S V H σ Γ PD D r sl q k
  refine wS_of (ps_if wT_pt wB_pss wB_pss) (wT_mono (hc S V H σ Γ _ r sl q) fun v H1 ⟨S1, V1, r1, e1, q1⟩ => ?_)
  cases v with
  | true =>
    rw [if_pos rfl]
    exact ha S1 V1 H1 σ Γ PD D r1 (sl.mono e1) q1 (k.ext e1)
  | false =>
    rw [if_neg Bool.false_ne_true]
    exact hb S1 V1 H1 σ Γ PD D r1 (sl.mono e1) q1 (k.ext e1)
/-! ### targets -/
def qgName (i : Nat) : PTG := fun dv Γ O Q => Q (Γ.set i (some dv)) O
theorem gw_name {i : Nat} {x : Str} (hN : X.N.Nodup) (hi : X.N[i]? = some x := by rfl) (hx : Loc X.env.scope x := by first | exact Or.inl rfl | exact Or.inr rfl) (hf : X.fn x = true ∨ X.env.scope.names.lookup x = some .local := by first | exact .inl rfl | exact .inr rfl) : GW X R (.Name x pos) (qgName i) := by
  intro S V H σ Γ v dv Q r sl d q
  exact wG_of (pg_name hN hi hx hf) ⟨S, V, Γ.set i (some dv), r, Ext.refl, sl.set i d, q⟩
def qgNil : PTGs := fun ds Γ O Q => match ds with
  | [] => Q Γ O
  | _ => False
def qgCons (g : PTG) (gs : PTGs) : PTGs := fun ds Γ O Q => match ds with
  | d :: r => g (.d d) Γ O fun Γ1 O1 => gs r Γ1 O1 Q
  | _ => False
theorem gsw_nil : GsW X R [] qgNil := by
  intro S V H σ Γ vs ds Q r sl d q
  cases d with
  | nil => exact wGs_of pgs_nil ⟨rfl, S, V, Γ, r, Ext.refl, sl, q⟩
  | cons _ _ => exact q.elim
theorem gsw_cons {t : Expr} {ts : List Expr} {g : PTG} {gs : PTGs} (h1 : GW X R t g) (h2 : GsW X R ts gs) (hs : (assignEach (t :: ts) X.env).map (·.2) = assign t X.env :: (assignEach ts X.env).map (·.2) := by rfl) : GsW X R (t :: ts) (qgCons g gs) := by
  intro S V H σ Γ vs ds Q r sl d q
  cases d with
  | nil => exact q.elim
  | cons d1 d2 =>
    refine wGs_of (pgs_cons wG_pg wGs_pgs hs) ⟨_, _, rfl, wG_mono (h1 S V H σ Γ _ (.d _) _ r sl d1 q) fun σ1 H1 ⟨S1, V1, Γ1, r1, e1, sl1, q1⟩ => ?_⟩
    exact wGs_mono (h2 S1 V1 H1 σ1 Γ1 _ _ Q r1 sl1 (d2.mono e1.v) q1) fun _ _ z => z.ext e1
/-- (a, b, ..) = a tuple, a list -/
def qgTup (n : Nat) (gs : PTGs) : PTG := fun dv Γ O Q => match dv with
  | .d (.tuple ds) => ds.length = n ∧ gs ds Γ O Q
  | .d (.list ds) => ds.length = n ∧ gs ds Γ O Q
  | _ => False
theorem gw_tup {es : List Expr} {k n : Nat} {gs : PTGs} (hc : X.calm = true) (h : GsW X R es gs) (hn : (assignEach es X.env).length = n := by rfl) (hst : (assignEach es X.env).findIdx? (·.1) = none := by rfl) : GW X R (.Tuple es k pos) (qgTup n gs) := by
  intro S V H σ Γ v dv Q r sl d q
  unfold qgTup at q
  split at q
  · cases d with
    | tup h1 h2 => exact wG_of (pg_tup hc wGs_pgs hn hst) ⟨_, _, rfl, same_seqT r.vh h1, by rw [h2.length]; exact q.1, h S V H σ Γ _ _ Q r sl h2 q.2⟩
  · cases d with
    | lst h1 h2 => exact wG_of (pg_unl hc wGs_pgs hn hst) ⟨_, _, rfl, SqL.of (r.vh _ _ h1), by rw [h2.length]; exact q.1, h S V H σ Γ _ _ Q r sl h2 q.2⟩
  · exact q.elim
def qSet (i : Nat) (f : PTE) : PTS := fun PD Γ O => f Γ O fun dv O1 => PD.nx (Γ.set i (some dv)) O1
theorem sw_set {i : Nat} {x : Str} {pos' : Pos} (hN : X.N.Nodup) (he : EW X R e f) (hi : X.N[i]? = some x := by rfl) (hx : Loc X.env.scope x := by first | exact Or.inl rfl | exact Or.inr rfl) (hs : swapsWith e (some (.Name x pos')) pos.line X.env = pure false := by rfl) (hf : X.fn x = true ∨ X.env.scope.names.lookup x = some .local := by first | exact .inl rfl | exact .inr rfl) :
    SW X R (.Assign [.Name x pos'] e pos) (qSet i f) := by
  intro S V H σ Γ PD D r sl q k
  refine wS_of (ps_set hN hi hx wE_pe hs hf) (wE_mono (he S V H σ Γ _ r sl q) fun v H1 ⟨S1, V1, dv, r1, e1, d1, q1⟩ => ?_)
  exact k.nx _ H1 ⟨S1, V1, _, r1, e1, (sl.mono e1).set i d1, q1⟩
def qAsg (f : PTE) (g : PTG) : PTS := fun PD Γ O => f Γ O fun dv O1 => g dv Γ O1 PD.nx
theorem sw_asg {tg : Expr} {g : PTG} (he : EW X R e f) (hg : GW X R tg g) (hs : swapsWithSole [tg] e pos.line X.env = pure false := by rfl) (hw : swappedStores [tg] e X.env = pure none := by rfl) (h1 : (assignEach [tg] X.env).map (·.2) = [assign tg X.env] := by rfl) :
    SW X R (.Assign [tg] e pos) (qAsg f g) := by
  intro S V H σ Γ PD D r sl q k
  refine wS_of (ps_asg wE_pe wG_pg hs hw h1) (wE_mono (he S V H σ Γ _ r sl q) fun v H1 ⟨S1, V1, dv, r1, e1, d1, q1⟩ => ?_)
  exact wG_mono (hg S1 V1 H1 σ Γ v dv _ r1 (sl.mono e1) d1 q1) fun σ2 H2 z => k.nx _ _ (z.ext e1)
/-- a, b = x, y with plain names -/
def qPar (i j : Nat) (fs : PTA) : PTS := fun PD Γ O => fs Γ O fun dvs O1 => match dvs with
  | [v, w] => PD.nx ((Γ.set i (some v)).set j (some w)) O1
  | _ => False
theorem sw_par {i j : Nat} {a b : Expr} {fs : PTA} (hc : X.calm = true) (hN : X.N.Nodup) (ha : AW X R [a, b] fs) (h : ∀ {ta : TA}, PA X [a, b] ta → PS X st (tPar i j ta)) : SW X R st (qPar i j fs) := by
  intro S V H σ Γ PD D r sl q k
  refine wS_of (h wA_pa) (wA_mono (ha S V H σ Γ _ r sl q) fun vs H1 ⟨S1, V1, dvs, r1, e1, d1, q1⟩ => ?_)
  dsimp only at q1
  split at q1
  · cases d1 with
    | cons d1 d2 => cases d2 with
      | cons d2 d3 =>
        cases d3
        exact ⟨_, _, rfl, k.nx _ H1 ⟨S1, V1, _, r1, e1, ((sl.mono e1).set i d1).set j d2, q1⟩⟩
  · exact q1.elim
/-! ### what is walked -/
structure Itm where
  xs : List DV
  ok : List Ob → Prop
def ItOk (K : PySem.W.Frag) (R : Fr) (J : It) (S0 : List Cell) (V0 : Hp) (it : Itm) : Prop := ∀ (i : Nat) (S : List Cell) (V H : Hp), Ext S0 V0 S V → Rep K R S V H → it.ok (obs S) →
  (∀ d, it.xs[i]? = some d → J.go i H ∧ ∀ x H', J.yld i H x H' → ∃ V', Rep K R S V' H' ∧ Ext S V S V' ∧ DVat K S V' x d ∧ Same H H' ∧ ∀ b, V' b ≠ none → V b ≠ none ∨ H b = none) ∧ (it.xs.length ≤ i → J.stop i H)
abbrev PTI := PEnv → List Ob → (Itm → List Ob → Prop) → Prop
def IW (X : Cx) (R : Fr) (tg iter : Expr) (w : PTI) : Prop := ∀ (S : List Cell) (V H : Hp) (σ : L2.St) (Γ : PEnv) (Q : Itm → List Ob → Prop), Rep X.K R S V H → Slots X.K S V σ Γ → w Γ (obs S) Q →
  ∀ P : It → Hp → Prop, (∀ J S' V' H' it, Rep X.K R S' V' H' → Ext S V S' V' → ItOk X.K R J S' V' it → Q it (obs S') → P J H') → wI X tg iter σ H P
def qLoop (ok : List Ob → Prop) (g : PTG) (body : PTS) (PD : PEnds) : List DV → QN
  | [] => fun Γ O => ok O ∧ PD.nx Γ O
  | d :: ds => fun Γ O => ok O ∧ g d Γ O fun Γ2 O2 => body { PD with nx := qLoop ok g body PD ds, ct := qLoop ok g body PD ds, bk := PD.nx } Γ2 O2
def qFor (w : PTI) (g : PTG) (body : PTS) : PTS := fun PD Γ O => w Γ O fun it O1 => qLoop it.ok g body PD it.xs Γ O1
theorem sw_for {tg iter : Expr} {body : List Stmt} {w : PTI} {g : PTG} {B : PTS} (hp : PassesOwn (model X.prog X.w) X.A X.env X.xe) (hc : X.calm = true) (hi : IW X R tg iter w) (hg : GW X R tg g) (hb : BW X R body B)
    (hs : ∀ x, foldedSetIterable iter X.env x = pure x := by intro _; rfl) : SW X R (.For tg iter body [] pos) (qFor w g B) := by
  intro S V H σ Γ PD D r sl q k
  refine wS_of (ps_for hp hc wI_pi wG_pg wB_pss hs) ?_
  refine hi S V H σ Γ _ r sl q _ fun J S1 V1 H1 it r1 e1 ok1 q1 => ?_
  refine ⟨fun i m σ' H' => m + i = it.xs.length ∧ LiftN X.K R S1 V1 (qLoop it.ok g B PD (it.xs.drop i)) σ' H', ⟨it.xs.length, rfl, S1, V1, Γ, r1, Ext.refl, sl.mono e1, q1⟩, ?_⟩
  rintro i m σ2 H2 ⟨hm, S2, V2, Γ2, r2, e2, sl2, q2⟩
  by_cases hlt : i < it.xs.length
  · rw [List.drop_eq_getElem_cons hlt] at q2
    obtain ⟨ok2, q2⟩ := q2
    obtain ⟨go, _⟩ := ok1 i S2 V2 H2 e2 r2 ok2
    obtain ⟨g1, g2⟩ := go _ (List.getElem?_eq_getElem hlt)
    refine .inr ⟨g1, LiftN X.K R S1 V1 (qLoop it.ok g B PD (it.xs.drop (i + 1))), fun σ' H' z => ⟨m - 1, by omega, by omega, z⟩, fun x H3 y => ?_⟩
    obtain ⟨V3, r3, e3, d3, _, _⟩ := g2 x H3 y
    refine wG_mono (hg S2 V3 H3 σ2 Γ2 x _ _ r3 (sl2.mono e3) d3 q2) fun σ4 H4 ⟨S4, V4, Γ4, r4, e4, sl4, q4⟩ => ?_
    have e14 := (e2.trans e3).trans e4
    exact hb S4 V4 H4 σ4 Γ4 _ _ r4 sl4 q4 ⟨fun σ' H' z => z.ext e14, fun v H' z => k.rt v H' (z.ext (e1.trans e14)), fun σ' H' z => k.nx σ' H' (z.ext (e1.trans e14)), fun σ' H' z => z.ext e14⟩
  · have hd : it.xs.drop i = [] := List.drop_eq_nil_of_le (Nat.le_of_not_lt hlt)
    rw [hd] at q2
    obtain ⟨ok2, q2⟩ := q2
    exact .inl ⟨(ok1 i S2 V2 H2 e2 r2 ok2).2 (Nat.le_of_not_lt hlt), k.nx σ2 H2 ⟨S2, V2, Γ2, r2, e1.trans e2, sl2, q2⟩⟩
/-! lists, ranges -/
def okOf (O : List Ob) (dv : DV) (x : PyData) : List Ob → Prop := match dv with
  | .o i => fun O' => rd O' (.o i) = some x
  | _ => fun _ => True
def qiSeq (f : PTE) : PTI := fun Γ O Q => f Γ O fun dv O1 => match rd O1 dv with
  | some (.list ds) => Q ⟨ds.map .d, okOf O1 dv (.list ds)⟩ O1
  | some (.tuple ds) => Q ⟨ds.map .d, fun _ => True⟩ O1
  | _ => False
/-- a list -/
def qiList (f : PTE) : PTI := fun Γ O Q => f Γ O fun dv O1 => match rd O1 dv with
  | some (.list ds) => Q ⟨ds.map .d, okOf O1 dv (.list ds)⟩ O1
  | _ => False
def qiTup (f : PTE) : PTI := fun Γ O Q => f Γ O fun dv O1 => match rd O1 dv with
  | some (.tuple ds) => Q ⟨ds.map .d, fun _ => True⟩ O1
  | _ => False
theorem itl_ok {K : PySem.W.Frag} {S0 : List Cell} {V0 H0 : Hp} {a : Addr} {dv : DV} {ds : List PyData} (r0 : Rep K R S0 V0 H0) (d0 : DVat K S0 V0 (.ref a) dv) (e0 : rd (obs S0) dv = some (.list ds)) : ItOk K R (Itl K a) S0 V0 ⟨ds.map .d, okOf (obs S0) dv (.list ds)⟩ := by
  intro i S V H e r ok
  have hr : rd (obs S) dv = some (.list ds) := by
    cases dv with
    | d x => exact e0
    | o j => exact ok
    | x ψ => cases e0
  obtain ⟨a', vs, ha, hv, hd⟩ := rd_lst r (d0.mono e) hr
  cases ha
  have hl := hd.length
  refine ⟨fun d hd' => ?_, fun hi => ⟨vs, SqL.of hv, by rw [hl]; simpa using hi⟩⟩
  rw [List.getElem?_map] at hd'
  cases q : ds[i]? with
  | none => rw [q] at hd'; cases hd'
  | some z =>
    rw [q] at hd'
    cases hd'
    obtain ⟨w, h1, h2⟩ := hd.get q
    refine ⟨⟨vs, w, SqL.of hv, h1⟩, fun x H' ⟨hH, hx⟩ => ?_⟩
    subst hH
    have := hx vs (SqL.of hv)
    rw [h1] at this
    cases this
    exact ⟨V, r, Ext.refl, h2, Same.refl _, fun b hb => .inl hb⟩
theorem iw_list {tg iter : Expr} (he : EW X R iter f) : IW X R tg iter (qiList f) := by
  intro S V H σ Γ Q r sl q P k
  refine ⟨_, pi_list wE_pe, wE_mono (he S V H σ Γ _ r sl q) fun v H1 ⟨S1, V1, dv, r1, e1, d1, q1⟩ => ?_⟩
  dsimp only at q1
  split at q1
  · rename_i ds h
    obtain ⟨a, vs, rfl, hv, hd⟩ := rd_lst r1 d1 h
    exact ⟨a, rfl, ⟨vs, SqL.of hv⟩, k _ S1 V1 H1 _ r1 e1 (itl_ok r1 d1 h) q1⟩
  · exact q1.elim
theorem iw_tup {tg iter : Expr} (he : EW X R iter f) : IW X R tg iter (qiTup f) := by
  intro S V H σ Γ Q r sl q P k
  refine ⟨_, pi_tup wE_pe, wE_mono (he S V H σ Γ _ r sl q) fun v H1 ⟨S1, V1, dv, r1, e1, d1, q1⟩ => ?_⟩
  dsimp only at q1
  split at q1
  · rename_i ds h
    obtain ⟨a, vs, rfl, hv, hd⟩ := rd_tup r1 d1 h
    refine ⟨a, rfl, ⟨vs, same_seqT r1.vh hv⟩, k _ S1 V1 H1 _ r1 e1 (fun i S V H e r _ => ?_) q1⟩
    have hvs := same_seqT (e.v.trans r.vh) hv
    have hl := hd.length
    refine ⟨fun d hd' => ?_, fun hi => ⟨vs, hvs, by rw [hl]; simpa using hi⟩⟩
    rw [List.getElem?_map] at hd'
    cases q : ds[i]? with
    | none => rw [q] at hd'; cases hd'
    | some z =>
      rw [q] at hd'
      cases hd'
      obtain ⟨w, h1, h2⟩ := hd.get q
      refine ⟨⟨vs, w, hvs, h1⟩, fun x H' ⟨hH, hx⟩ => ?_⟩
      subst hH
      have := hx vs hvs
      rw [h1] at this
      cases this
      exact ⟨V, r, Ext.refl, h2.mono e.v, Same.refl _, fun b hb => .inl hb⟩
  · exact q1.elim
/-- a list or a tuple, walked -/
def iSeq (K : PySem.W.Frag) (tl : TE) : TI := fun σ H P => tl σ H fun x H1 => ∃ a, x = .ref a ∧ (((∃ xs, SqL K H1 a xs) ∧ P (Itl K a) H1) ∨ ((∃ xs, SqT K H1 a xs) ∧ P (Itt K a) H1))
theorem pi_seq {tg l : Expr} {tl : TE} (hl : PE X l tl) : PI X tg l (iSeq X.K tl) := by
  refine ⟨fun pins s σ H P I h => ?_⟩
  refine thn (hl.run pins s σ H _ I h) fun v s1 ⟨x, H1, I1, r1, q1⟩ => ?_
  obtain ⟨a, e, ⟨⟨xs, hq⟩, q⟩ | ⟨⟨xs, hq⟩, q⟩⟩ := q1
  · subst e
    cases r1
    obtain ⟨its, rv, p, hz⟩ := I1.list hq
    refine wpAny_pyIter_list p.isList ?_
    refine ⟨s1.heap.objs.size, [s1.heap.objs.size], _, _, H1, rfl, I1.kept (t' := s1.toks) fun b o e => Heap.get?_push_of_some _ e, turn_list a _, ⟨_, Heap.get?_push_size _ rfl, rfl, rfl⟩, fun b hb => ?_, q⟩
    have e : b = s1.heap.objs.size := by simpa using hb
    subst e
    exact I1.fpOk (Nat.le_refl _) (I1.hok.fresh (Nat.le_refl _))
  · subst e
    cases r1
    obtain ⟨its, rv, p, hz⟩ := I1.tuple hq
    refine wpAny_pyIter_tuple (show s1.heap.IsTuple a its.toArray from p) ?_
    refine ⟨s1.heap.objs.size, [s1.heap.objs.size], _, _, H1, rfl, I1.kept (t' := s1.toks) fun b o e => Heap.get?_push_of_some _ e, turn_tuple a _, ⟨_, Heap.get?_push_size _ rfl, rfl, rfl⟩, fun b hb => ?_, q⟩
    have e : b = s1.heap.objs.size := by simpa using hb
    subst e
    exact I1.fpOk (Nat.le_refl _) (I1.hok.fresh (Nat.le_refl _))
theorem itt_ok {K : PySem.W.Frag} {S0 : List Cell} {V0 : Hp} {a : Addr} {vs : List L2.V} {ds : List PyData} (hv : SqT K V0 a vs) (hd : DqL K V0 vs ds) : ItOk K R (Itt K a) S0 V0 ⟨ds.map .d, fun _ => True⟩ := by
  intro i S V H e r _
  have hvs := same_seqT (e.v.trans r.vh) hv
  have hl := hd.length
  refine ⟨fun d hd' => ?_, fun hi => ⟨vs, hvs, by rw [hl]; simpa using hi⟩⟩
  rw [List.getElem?_map] at hd'
  cases q : ds[i]? with
  | none => rw [q] at hd'; cases hd'
  | some z =>
    rw [q] at hd'
    cases hd'
    obtain ⟨w, h1, h2⟩ := hd.get q
    refine ⟨⟨vs, w, hvs, h1⟩, fun x H' ⟨hH, hx⟩ => ?_⟩
    subst hH
    have := hx vs hvs
    rw [h1] at this
    cases this
    exact ⟨V, r, Ext.refl, h2.mono e.v, Same.refl _, fun b hb => .inl hb⟩
theorem iw_seq {tg iter : Expr} (he : EW X R iter f) : IW X R tg iter (qiSeq f) := by
  intro S V H σ Γ Q r sl q P k
  refine ⟨_, pi_seq wE_pe, wE_mono (he S V H σ Γ _ r sl q) fun v H1 ⟨S1, V1, dv, r1, e1, d1, q1⟩ => ?_⟩
  dsimp only at q1
  split at q1
  · rename_i ds h
    obtain ⟨a, vs, rfl, hv, hd⟩ := rd_lst r1 d1 h
    exact ⟨a, rfl, .inl ⟨⟨vs, SqL.of hv⟩, k _ S1 V1 H1 _ r1 e1 (itl_ok r1 d1 h) q1⟩⟩
  · rename_i ds h
    obtain ⟨a, vs, rfl, hv, hd⟩ := rd_tup r1 d1 h
    exact ⟨a, rfl, .inr ⟨⟨vs, same_seqT r1.vh hv⟩, k _ S1 V1 H1 _ r1 e1 (itt_ok hv hd) q1⟩⟩
  · exact q1.elim
def rngD (lo : Int) (n : Nat) : List DV := (List.range n).map fun (i : Nat) => DV.d (.int (lo + i))
theorem itr_ok {K : PySem.W.Frag} {S0 : List Cell} {V0 : Hp} {lo : Int} {n : Nat} : ItOk K R (Itr lo n) S0 V0 ⟨rngD lo n, fun _ => True⟩ := by
  intro i S V H e r _
  refine ⟨fun d hd => ?_, fun hi => show n ≤ i by unfold rngD at hi; simpa using hi⟩
  unfold rngD at hd
  rw [List.getElem?_map] at hd
  cases q : (List.range n)[i]? with
  | none => rw [q] at hd; cases hd
  | some z =>
    rw [q] at hd
    cases hd
    obtain ⟨h1, h2⟩ := List.getElem?_eq_some_iff.mp q
    rw [List.getElem_range] at h2
    subst h2
    refine ⟨show i < n by simpa using h1, fun x H' ⟨hH, hx⟩ => ?_⟩
    subst hH hx
    exact ⟨V, r, Ext.refl, .int _, Same.refl _, fun b hb => .inl hb⟩
def qiRange1 (fs : PTA) : PTI := fun Γ O Q => fs Γ O fun dvs O1 => match dvs with
  | [.d (.int j)] => (-(2 ^ 62) ≤ j ∧ j < 2 ^ 62) ∧ Q ⟨rngD 0 j.toNat, fun _ => True⟩ O1
  | _ => False
theorem iw_range1 {tg a : Expr} {fs : PTA} {p : Pos} (hm : X.mg "range" = none) (ha : AW X R [a] fs) (hg : Gl X "range" := by rfl) (hs : starEach [a] X.env = [(false, eval a X.env)] := by rfl) : IW X R tg (.Call (.Name "range" p) [a] [] pos) (qiRange1 fs) := by
  intro S V H σ Γ Q r sl q P k
  refine ⟨_, pi_range1 hg hm wA_pa hs, wA_mono (ha S V H σ Γ _ r sl q) fun vs H1 ⟨S1, V1, dvs, r1, e1, d1, q1⟩ => ?_⟩
  dsimp only at q1
  split at q1
  · cases d1 with
    | cons d1 d2 =>
      cases d1; cases d2
      exact ⟨_, rfl, q1.1.1, q1.1.2, k _ S1 V1 H1 _ r1 e1 itr_ok q1.2⟩
  · exact q1.elim
def qiRange2 (fs : PTA) : PTI := fun Γ O Q => fs Γ O fun dvs O1 => match dvs with
  | [.d (.int i), .d (.int j)] => (-(2 ^ 62) ≤ i ∧ i < 2 ^ 62 ∧ -(2 ^ 62) ≤ j ∧ j < 2 ^ 62) ∧ Q ⟨rngD i (j - i).toNat, fun _ => True⟩ O1
  | _ => False
theorem iw_range2 {tg a b : Expr} {fs : PTA} {p : Pos} (hm : X.mg "range" = none) (ha : AW X R [a, b] fs) (hg : Gl X "range" := by rfl) (hs : starEach [a, b] X.env = [(false, eval a X.env), (false, eval b X.env)] := by rfl) (hs2 : starEach [b] X.env = [(false, eval b X.env)] := by rfl) : IW X R tg (.Call (.Name "range" p) [a, b] [] pos) (qiRange2 fs) := by
  intro S V H σ Γ Q r sl q P k
  refine ⟨_, pi_range2 hg hm wA_pa hs hs2, wA_mono (ha S V H σ Γ _ r sl q) fun vs H1 ⟨S1, V1, dvs, r1, e1, d1, q1⟩ => ?_⟩
  dsimp only at q1
  split at q1
  · cases d1 with
    | cons d1 d2 => cases d2 with
      | cons d2 d3 =>
        cases d1; cases d2; cases d3
        exact ⟨_, _, rfl, q1.1, k _ S1 V1 H1 _ r1 e1 itr_ok q1.2⟩
  · exact q1.elim
end
end PW

namespace PW
open PySem PySem.Spec PyProof.Rows L2
section
variable {K : PySem.W.Frag} {R : Fr} {S S' : List Cell} {V V' H H' : Hp} {D : Addr} {o : HO}
/-- a thing aside: new, or changed; no object of ours, not of the view -/
theorem Rep.aside (r : Rep K R S V H) (hv : V D = none) (hf : D ∉ (feet S).flatten) (h0 : R.H0 D = none) : Rep K R S V (upd H D o) := by
  have nf : ∀ {i : Nat} {c : Cell}, S[i]? = some c → ∀ b ∈ c.2.1, b ≠ D := fun {i c} h b hb z => hf (mem_feet h (by rw [← z]; exact hb))
  refine ⟨r.v0, fun b u e => by rw [upd_ne (ne_of_none e hv)]; exact r.vh b u e, fun b u hb e => ?_, fun b hb => ?_, r.vnew, fun i c e => ?_, fun i c e b hb => ?_, r.sep⟩
  · rw [upd_ne (ne_of_none e h0)]
    exact r.keep b u hb e
  · by_cases q : b = D
    · rw [q, upd_same]; simp
    · rw [upd_ne q]; exact r.f0 b hb
  · exact (r.own i c e).stay (Same.refl _) (fun b u e => by rw [upd_ne (ne_of_none e hv)]; exact r.vh b u e) fun b hb => upd_ne (nf e b hb)
  · obtain ⟨h1, h2, h3⟩ := r.foot i c e b hb
    exact ⟨h1, by rw [upd_ne (nf e b hb)]; exact h2, h3⟩
/-- .. that is looked at from now on -/
theorem Rep.see (r : Rep K R S V H) (hd : H D = some o) (hv : V D = none) (hf : D ∉ (feet S).flatten) (h0 : R.H0 D = none) : Rep K R S (upd V D o) H ∧ Ext S V S (upd V D o) := by
  have sv : Same V (upd V D o) := fun b u e => by rw [upd_ne (ne_of_none e hv)]; exact e
  have vh : Same (upd V D o) H := fun b u e => by
    by_cases q : b = D
    · subst q; rw [upd_same] at e; cases e; exact hd
    · rw [upd_ne q] at e; exact r.vh b u e
  refine ⟨⟨r.v0.trans sv, vh, r.keep, r.f0, fun b e => ?_, fun i c e => (r.own i c e).stay sv vh fun _ _ => rfl, fun i c e b hb => ?_, r.sep⟩, ⟨sv, fun i c h => ⟨c, h, rfl⟩⟩⟩
  · by_cases q : b = D
    · rw [q]; exact .inr (.inl h0)
    · rw [upd_ne q] at e ⊢; exact r.vnew b e
  · obtain ⟨h1, h2, h3⟩ := r.foot i c e b hb
    exact ⟨by rw [upd_ne (fun z => hf (mem_feet e (by rw [← z]; exact hb)))]; exact h1, h2, h3⟩
theorem Rep.hidden (r : Rep K R S V H) (h : H D = none) : V D = none ∧ D ∉ (feet S).flatten ∧ R.H0 D = none := ⟨r.vnone h, fun q => by
  obtain ⟨i, c, h1, h2⟩ := feet_mem q
  exact (r.foot i c h1 D h2).2.1 h, r.none0 h⟩
/-- what a part leaves alone -/
theorem Rep.side (r' : Rep K (.here S V H) S' V' H') (hv : V D = none) (hf : D ∉ (feet S).flatten) (hd : H D = some o) (ho : ∀ xs, o ≠ .tup xs) : H' D = some o ∧ V' D = none ∧ D ∉ (feet S').flatten := by
  refine ⟨r'.keep D o hf hd, ?_, fun q => ?_⟩
  · cases z : V' D with
    | none => rfl
    | some u =>
      rcases r'.vnew D (by rw [z]; simp) with y | y | ⟨xs, y⟩
      · exact (y hv).elim
      · have y' : H D = none := y
        rw [hd] at y'; cases y'
      · have y2 := r'.vh _ _ y
        rw [r'.keep D o hf hd] at y2
        exact (ho xs (Option.some.inj y2)).elim
  · obtain ⟨i, c, h1, h2⟩ := feet_mem q
    rcases Fr.foot_or (r'.foot i c h1 D h2).2.2 with y | y
    · exact hf y
    · have y' : H D = none := y
      rw [hd] at y'; cases y'
end
/-! ### the slots of a comprehension -/
theorem wipe_get {σ : L2.St} : ∀ {vs : List Nat} {i : Nat}, i ∈ vs → i < σ.length → (L2.wipe σ vs)[i]? = some none
  | v :: vs, i, h, hl => by
    unfold L2.wipe
    rw [List.getElem?_set]
    by_cases q : v = i
    · subst q
      rw [if_pos rfl, if_pos (by rw [wipe_length]; exact hl)]
    · rw [if_neg q]
      rcases List.mem_cons.mp h with z | z
      · exact (q z.symm).elim
      · exact wipe_get z hl
theorem wipe_set {σ : L2.St} {vs : List Nat} {i : Nat} {x : Option L2.V} (h : i ∈ vs) : L2.wipe (σ.set i x) vs = L2.wipe σ vs := by
  apply List.ext_getElem?
  intro j
  by_cases hj : j ∈ vs
  · by_cases hl : j < σ.length
    · rw [wipe_get hj hl, wipe_get hj (by rw [List.length_set]; exact hl)]
    · rw [List.getElem?_eq_none (by rw [wipe_length, List.length_set]; omega), List.getElem?_eq_none (by rw [wipe_length]; omega)]
  · rw [wipe_out hj, wipe_out hj, List.getElem?_set_ne (fun z => hj (by rw [← z]; exact h))]
theorem wipe_wipe {σ : L2.St} {vs : List Nat} : L2.wipe (L2.wipe σ vs) vs = L2.wipe σ vs := by
  apply List.ext_getElem?
  intro j
  by_cases hj : j ∈ vs
  · by_cases hl : j < σ.length
    · rw [wipe_get hj hl, wipe_get hj (by rw [wipe_length]; exact hl)]
    · rw [List.getElem?_eq_none (by rw [wipe_length, wipe_length]; omega), List.getElem?_eq_none (by rw [wipe_length]; omega)]
  · rw [wipe_out hj]
theorem same_new' {H : Hp} {p : Addr} {o : HO} (hp : H p = none) : Same H (upd H p o) := fun b u e => by rw [upd_ne (ne_of_none e hp)]; exact e
def GC (X : Cx) (R : Fr) (ws : List Nat) (tg : Expr) (g : PTG) : Prop := ∀ (S : List Cell) (V H : Hp) (σ : L2.St) (Γ : PEnv) (v : L2.V) (dv : DV) (Q : QN), Rep X.K R S V H → Slots X.K S V σ Γ → DVat X.K S V v dv → g dv Γ (obs S) Q →
  wG X tg v σ H fun σ' H' => LiftN X.K R S V Q σ' H' ∧ L2.wipe σ' ws = L2.wipe σ ws
def GsC (X : Cx) (R : Fr) (ws : List Nat) (tgs : List Expr) (g : PTGs) : Prop := ∀ (S : List Cell) (V H : Hp) (σ : L2.St) (Γ : PEnv) (vs : List L2.V) (ds : List PyData) (Q : QN), Rep X.K R S V H → Slots X.K S V σ Γ → DqL X.K V vs ds → g ds Γ (obs S) Q →
  wGs X tgs vs σ H fun σ' H' => LiftN X.K R S V Q σ' H' ∧ L2.wipe σ' ws = L2.wipe σ ws
section
variable {X : Cx} {R : Fr} {ws : List Nat} {pos : Pos}
theorem gc_name {i : Nat} {x : Str} (hw : i ∈ ws) (hN : X.N.Nodup) (hi : X.N[i]? = some x := by rfl) (hx : Loc X.env.scope x := by first | exact Or.inl rfl | exact Or.inr rfl) (hf : X.fn x = true ∨ X.env.scope.names.lookup x = some .local := by first | exact .inl rfl | exact .inr rfl) : GC X R ws (.Name x pos) (qgName i) := by
  intro S V H σ Γ v dv Q r sl d q
  exact wG_of (pg_name hN hi hx hf) ⟨⟨S, V, Γ.set i (some dv), r, Ext.refl, sl.set i d, q⟩, wipe_set hw⟩
theorem gsc_nil : GsC X R ws [] qgNil := by
  intro S V H σ Γ vs ds Q r sl d q
  cases d with
  | nil => exact wGs_of pgs_nil ⟨rfl, ⟨S, V, Γ, r, Ext.refl, sl, q⟩, rfl⟩
  | cons _ _ => exact q.elim
theorem gsc_cons {t : Expr} {ts : List Expr} {g : PTG} {gs : PTGs} (h1 : GC X R ws t g) (h2 : GsC X R ws ts gs) (hs : (assignEach (t :: ts) X.env).map (·.2) = assign t X.env :: (assignEach ts X.env).map (·.2) := by rfl) : GsC X R ws (t :: ts) (qgCons g gs) := by
  intro S V H σ Γ vs ds Q r sl d q
  cases d with
  | nil => exact q.elim
  | cons d1 d2 =>
    refine wGs_of (pgs_cons wG_pg wGs_pgs hs) ⟨_, _, rfl, wG_mono (h1 S V H σ Γ _ (.d _) _ r sl d1 q) fun σ1 H1 ⟨⟨S1, V1, Γ1, r1, e1, sl1, q1⟩, w1⟩ => ?_⟩
    exact wGs_mono (h2 S1 V1 H1 σ1 Γ1 _ _ Q r1 sl1 (d2.mono e1.v) q1) fun _ _ ⟨z, w⟩ => ⟨z.ext e1, w.trans w1⟩
theorem gc_tup {es : List Expr} {k n : Nat} {gs : PTGs} (hc : X.calm = true) (h : GsC X R ws es gs) (hn : (assignEach es X.env).length = n := by rfl) (hst : (assignEach es X.env).findIdx? (·.1) = none := by rfl) : GC X R ws (.Tuple es k pos) (qgTup n gs) := by
  intro S V H σ Γ v dv Q r sl d q
  unfold qgTup at q
  split at q
  · cases d with
    | tup h1 h2 => exact wG_of (pg_tup hc wGs_pgs hn hst) ⟨_, _, rfl, same_seqT r.vh h1, by rw [h2.length]; exact q.1, h S V H σ Γ _ _ Q r sl h2 q.2⟩
  · cases d with
    | lst h1 h2 => exact wG_of (pg_unl hc wGs_pgs hn hst) ⟨_, _, rfl, SqL.of (r.vh _ _ h1), by rw [h2.length]; exact q.1, h S V H σ Γ _ _ Q r sl h2 q.2⟩
  · exact q.elim
/-! ### comprehensions -/
def wTs (X : Cx) (ifs : List Expr) : TT := fun σ H Q => ∃ t, PTs X ifs t ∧ t σ H Q
theorem wTs_pts {ifs : List Expr} : PTs X ifs (wTs X ifs) := ⟨fun pins s σ H Q I ⟨t, h, q⟩ => h.run pins s σ H Q I q⟩
def IfW (X : Cx) (R : Fr) (ifs : List Expr) (f : PTT) : Prop := ∀ (S : List Cell) (V H : Hp) (σ : L2.St) (Γ : PEnv) (Q : Bool → List Ob → Prop), Rep X.K R S V H → Slots X.K S V σ Γ → f Γ (obs S) Q → ∀ P : Bool → Hp → Prop, (∀ b H', PostT X.K R S V Q b H' → P b H') → wTs X ifs σ H P
def qYes : PTT := fun _ O Q => Q true O
theorem ifw_nil : IfW X R [] qYes := fun S V H σ Γ Q r sl q P k => ⟨_, pts_nil, k true H ⟨S, V, r, Ext.refl, q⟩⟩
theorem ifw_one {c : Expr} {t : PTT} (h : TW X R c t) : IfW X R [c] t := fun S V H σ Γ Q r sl q P k => ⟨_, pts_one wT_pt, wT_mono (h S V H σ Γ Q r sl q) k⟩
def qLcGo (ok : List Ob → Prop) (g : PTG) (t : PTT) (f : PTE) (Q : List PyData → List Ob → Prop) : List DV → List PyData → QN
  | [], acc => fun _ O => ok O ∧ Q acc O
  | d :: ds, acc => fun Γ O => ok O ∧ g d Γ O fun Γ1 O1 => t Γ1 O1 fun b O2 => match b with
    | true => f Γ1 O2 fun dv O3 => match dv with
      | .d x => qLcGo ok g t f Q ds (acc ++ [x]) Γ O3
      | _ => False
    | false => qLcGo ok g t f Q ds acc Γ O2
def qLc (ws : List Nat) (w : PTI) (g : PTG) (t : PTT) (f : PTE) : PTE := fun Γ O Q => w Γ O fun it O1 => it.xs.length ≤ 100000 ∧ qLcGo it.ok g t f (fun acc O2 => Q (.d (.list acc)) O2) it.xs [] (wipeG Γ ws) O1
theorem lc_read {elt tg iter : Expr} {ifs : List Expr} {scope : Scope} {own : List (Str × Nat)} {w : PTI} {g : PTG} {t : PTT} {f : PTE} (hi : IW X R tg iter w)
    (hg : ∀ (s : Shared) (H : Hp) (C : Addr) (cl : List (Str × Addr)) (fp : List Addr) (R : Fr), GC (X.blk s H scope (compEnvC scope cl C X.env) fp) R (own.map (·.2)) tg g)
    (ht : ∀ (s : Shared) (H : Hp) (C : Addr) (cl : List (Str × Addr)) (fp : List Addr) (R : Fr), IfW (X.blk s H scope (compEnvC scope cl C X.env) fp) R ifs t)
    (he : ∀ (s : Shared) (H : Hp) (C : Addr) (cl : List (Str × Addr)) (fp : List Addr) (R : Fr), EW (X.blk s H scope (compEnvC scope cl C X.env) fp) R elt f)
    {S : List Cell} {V H : Hp} {σ : L2.St} {Γ : PEnv} {Q : QE} (r : Rep X.K R S V H) (sl : Slots X.K S V σ Γ) (q : qLc (own.map (·.2)) w g t f Γ (obs S) Q) {PQ : VK} (kk : ∀ v H', PostE X.K R S V Q v H' → PQ v H') :
    tLc (wI X tg iter) (fun v σ Hh P => ∀ s H C cl fp, wG (X.blk s H scope (compEnvC scope cl C X.env) fp) tg v σ Hh P) (fun σ Hh P => ∀ s H C cl fp, wTs (X.blk s H scope (compEnvC scope cl C X.env) fp) ifs σ Hh P)
      (fun σ Hh P => ∀ s H C cl fp, wE (X.blk s H scope (compEnvC scope cl C X.env) fp) elt σ Hh P) (own.map (·.2)) σ H PQ := by
  refine hi S V H σ Γ _ r sl q _ fun J S1 V1 H1 it r1 e1 ok1 q1 => ?_
  obtain ⟨hlen, q1⟩ := q1
  intro D hD
  obtain ⟨v1, f1, h01⟩ := r1.hidden hD
  have hsl : sizeLine = 16777216 := sizeLine_eq
  -- what holds at a turn
  refine ⟨fun i m H2 => m + i = it.xs.length ∧ ∃ S2 V2 acc vs, Rep X.K R S2 V2 H2 ∧ Ext S1 V1 S2 V2 ∧ H2 D = some (.lst vs) ∧ V2 D = none ∧ D ∉ (feet S2).flatten ∧ DqL X.K V2 vs acc ∧ acc.length ≤ i ∧
    qLcGo it.ok g t f (fun acc O2 => Q (.d (.list acc)) O2) (it.xs.drop i) acc (wipeG Γ (own.map (·.2))) (obs S2), ⟨it.xs.length, rfl, S1, V1, [], [], r1.aside v1 f1 h01, Ext.refl, upd_same, v1, f1, .nil, Nat.zero_le _, by rw [List.drop_zero]; exact q1⟩, ?_⟩
  rintro i m H2 ⟨hm, S2, V2, acc, vs, r2, e2, d2, v2, f2, da, la, q2⟩
  by_cases hlt : i < it.xs.length
  · rw [List.drop_eq_getElem_cons hlt] at q2
    obtain ⟨ok2, q2⟩ := q2
    obtain ⟨go, _⟩ := ok1 i S2 V2 H2 e2 r2 ok2
    obtain ⟨g1, g2⟩ := go _ (List.getElem?_eq_getElem hlt)
    refine .inr ⟨g1, fun H3 => i + 1 ≤ it.xs.length ∧ ∃ S3 V3 acc vs, Rep X.K R S3 V3 H3 ∧ Ext S1 V1 S3 V3 ∧ H3 D = some (.lst vs) ∧ V3 D = none ∧ D ∉ (feet S3).flatten ∧ DqL X.K V3 vs acc ∧ acc.length ≤ i + 1 ∧
      qLcGo it.ok g t f (fun acc O2 => Q (.d (.list acc)) O2) (it.xs.drop (i + 1)) acc (wipeG Γ (own.map (·.2))) (obs S3), fun H' z => ⟨m - 1, by omega, by omega, z.2⟩, fun x H3 y => ?_⟩
    obtain ⟨V3, r3, e3, d3, s3, n3⟩ := g2 x H3 y
    have dD := s3 _ _ d2
    have v3 : V3 D = none := by
      cases z : V3 D with
      | none => rfl
      | some u =>
        rcases n3 D (by rw [z]; simp) with w | w
        · exact (w v2).elim
        · rw [d2] at w; cases w
    have sub := r3.sub
    intro s Hh C cl fp
    refine wG_mono (hg s Hh C cl fp _ S2 V3 H3 _ _ x _ _ sub (((sl.mono e1).mono (e2.trans e3)).wipe (own.map (·.2))) d3 q2) fun σ4 H4 ⟨⟨S4, V4, Γ4, r4, e4, sl4, q4⟩, w4⟩ => ?_
    refine ⟨by rw [w4, wipe_wipe], fun s Hh C cl fp => ht s Hh C cl fp _ S4 V4 H4 σ4 Γ4 _ r4 sl4 q4 _ fun b H5 ⟨S5, V5, r5, e5, q5⟩ => ?_⟩
    have r5' : Rep X.K (.here S2 V3 H3) S5 V5 H5 := r5
    have e25 : Ext S2 V3 S5 V5 := e4.trans e5
    cases b with
    | true =>
      rw [if_pos rfl]
      intro s Hh C cl fp
      refine wE_mono (he s Hh C cl fp _ S5 V5 H5 σ4 Γ4 _ r5 (sl4.mono e5) q5) fun u H6 ⟨S6, V6, dv, r6, e6, d6, q6⟩ => ?_
      have r6' : Rep X.K (.here S2 V3 H3) S6 V6 H6 := r6
      obtain ⟨c6, v6, f6⟩ := r6'.side v3 f2 dD (fun _ z => by cases z)
      have e26 := e25.trans e6
      dsimp only at q6
      split at q6
      · have hl := da.length
        refine ⟨vs, c6, by omega, by omega, S6, V6, _, vs ++ [u], (r3.back r6').aside v6 f6 h01, ((e2.trans e3).trans e26), upd_same, v6, f6, ((da.mono (e3.trans e26).v).append (DqL.one d6)), by simp; omega, q6⟩
      · exact q6.elim
    | false =>
      rw [if_neg Bool.false_ne_true]
      obtain ⟨c5, v5, f5⟩ := r5'.side v3 f2 dD (fun _ z => by cases z)
      exact ⟨by omega, S5, V5, acc, vs, r3.back r5', (e2.trans e3).trans e25, c5, v5, f5, da.mono (e3.trans e25).v, by omega, q5⟩
  · have hd : it.xs.drop i = [] := List.drop_eq_nil_of_le (Nat.le_of_not_lt hlt)
    rw [hd] at q2
    obtain ⟨ok2, q2⟩ := q2
    obtain ⟨r3, e3⟩ := r2.see d2 v2 f2 h01
    exact .inl ⟨(ok1 i S2 V2 H2 e2 r2 ok2).2 (Nat.le_of_not_lt hlt), kk _ _ ⟨S2, _, .d (.list acc), r3, (e1.trans e2).trans e3, .lst upd_same (da.mono e3.v), q2⟩⟩
theorem ew_lc {elt tg iter : Expr} {ifs : List Expr} {scope : Scope} {own : List (Str × Nat)} {w : PTI} {g : PTG} {t : PTT} {f : PTE} (hc : X.calm = true) (hN : X.N.Nodup) (hi : IW X R tg iter w) (ok : BlkOk X.N X.env.scope scope own)
    (hg : ∀ (s : Shared) (H : Hp) (C : Addr) (cl : List (Str × Addr)) (fp : List Addr) (R : Fr), GC (X.blk s H scope (compEnvC scope cl C X.env) fp) R (own.map (·.2)) tg g)
    (ht : ∀ (s : Shared) (H : Hp) (C : Addr) (cl : List (Str × Addr)) (fp : List Addr) (R : Fr), IfW (X.blk s H scope (compEnvC scope cl C X.env) fp) R ifs t)
    (he : ∀ (s : Shared) (H : Hp) (C : Addr) (cl : List (Str × Addr)) (fp : List Addr) (R : Fr), EW (X.blk s H scope (compEnvC scope cl C X.env) fp) R elt f) (hs : ∀ x, foldedSetIterable iter X.env x = pure x := by intro _; rfl) :
    EW X R (.ListComp elt [⟨tg, iter, ifs, 0⟩] scope pos) (qLc (own.map (·.2)) w g t f) := by
  intro S V H σ Γ Q r sl q
  refine wE_of (pe_lc (g := fun v σ Hh P => ∀ s H C cl fp, wG (X.blk s H scope (compEnvC scope cl C X.env) fp) tg v σ Hh P) (tt := fun σ Hh P => ∀ s H C cl fp, wTs (X.blk s H scope (compEnvC scope cl C X.env) fp) ifs σ Hh P)
    (te := fun σ Hh P => ∀ s H C cl fp, wE (X.blk s H scope (compEnvC scope cl C X.env) fp) elt σ Hh P) hc hN wI_pi ok (fun s H C cl fp => ⟨fun pins s' σ Hh v u P I rv h => wG_pg.run pins s' σ Hh v u P I rv (h s H C cl fp)⟩)
    (fun s H C cl fp => ⟨fun pins s' σ Hh P I h => wTs_pts.run pins s' σ Hh P I (h s H C cl fp)⟩) (fun s H C cl fp => ⟨fun pins s' σ Hh P I h => h s H C cl fp pins s' I⟩) hs) ?_
  exact lc_read hi hg ht he r sl q fun _ _ z => z
end
end PW

namespace PW
open PySem PySem.Spec PyProof.Rows L2
/-! ### a def keeps its promise -/
def startG (N : List Str) (dvs : List DV) : PEnv := dvs.map some ++ List.replicate (N.length - dvs.length) none
section
variable {K : PySem.W.Frag} {R : Fr} {S S' : List Cell} {V V' H H' : Hp}
theorem Ext.len (e : Ext S V S' V') : S.length ≤ S'.length := by
  cases h : S.length with
  | zero => omega
  | succ n =>
    obtain ⟨c', h1, _⟩ := e.s n S[n] (List.getElem?_eq_getElem (by omega))
    have := (List.getElem?_eq_some_iff.mp h1).1
    omega
theorem Ext.takeR (e : Ext S V S' V') : Ext S V (S'.take S.length) V' := ⟨e.v, fun i c h => by
  obtain ⟨c', h1, h2⟩ := e.s i c h
  exact ⟨c', by rw [List.getElem?_take, if_pos (List.getElem?_eq_some_iff.mp h).1]; exact h1, h2⟩⟩
theorem Ext.appR (e : Ext S V S' V') (T : List Cell) : Ext S V (S' ++ T) V' := ⟨e.v, fun i c h => by
  obtain ⟨c', h1, h2⟩ := e.s i c h
  exact ⟨c', by rw [List.getElem?_append_left (List.getElem?_eq_some_iff.mp h1).1]; exact h1, h2⟩⟩
theorem retn_ok {PQ : QE} {Q : VK} (k : ∀ v H' S' V' dv, Rep K (.here S V H) S' V' H' → Ext S V S' V' → DVat K S' V' v dv → PQ dv (obs S') → S.length ≤ S'.length → Q v H')
    (r : Rep K (.here S V H) S' V' H') (e : Ext S V S' V') {v : L2.V} : ∀ {dv : DV}, DVat K S' V' v dv → RetN S.length PQ dv (obs S') → Q v H'
  | .d x, d, q => k v H' (S'.take S.length) V' (.d x) (r.take _) e.takeR d (by rw [show obs (S'.take S.length) = (obs S').take S.length from List.map_take]; exact q) (by rw [List.length_take]; have := e.len; omega)
  | .x ψ, d, q => k v H' (S'.take S.length) V' (.x ψ) (r.take _) e.takeR d (by rw [show obs (S'.take S.length) = (obs S').take S.length from List.map_take]; exact q) (by rw [List.length_take]; have := e.len; omega)
  | .o j, ⟨c, h1, h2⟩, q => by
    have hl := e.len
    have ht : obs (S'.take S.length) = (obs S').take S.length := List.map_take
    have hfs : (Fr.here S V H).Fs.length = S.length := List.length_map ..
    rcases q with ⟨hj, q⟩ | ⟨hj, ob, h3, q⟩ | ⟨hj, ds, h3, q⟩
    · exact k v H' (S'.take S.length) V' (.o j) (r.take _) e.takeR ⟨c, by rw [List.getElem?_take, if_pos hj]; exact h1, h2⟩ (by rw [ht]; exact q) (by rw [List.length_take]; omega)
    · obtain ⟨c', h4, h5⟩ := obs_get h3
      rw [h1] at h4; cases h4
      refine k v H' (S'.take S.length ++ [c]) V' (.o S.length) (r.takeOne hfs h1 hj) (e.takeR.appR _) ⟨c, by rw [List.getElem?_append_right (by rw [List.length_take]; omega)]; rw [List.length_take, Nat.min_eq_left hl]; simp, h2⟩ ?_ (by rw [List.length_append, List.length_take]; omega)
      have : obs (S'.take S.length ++ [c]) = (obs S').take S.length ++ [ob] := by
        show (S'.take S.length ++ [c]).map (·.2.2) = _
        rw [List.map_append, List.map_take, List.map_cons, List.map_nil, h5]
      rw [this]; exact q
    · obtain ⟨c', h4, h5⟩ := obs_get h3
      rw [h1] at h4; cases h4
      have ho := r.own j c h1
      rw [h5] at ho
      obtain ⟨hf, xs, ha, hd⟩ := ho
      obtain ⟨a, fs, ob⟩ := c
      dsimp only at hf h5 ha h2
      subst hf h5
      have h0 : (Fr.here S V H).H0 a = none := by
        rcases (r.foot j _ h1 a (List.mem_singleton_self a)).2.2 with ⟨fs, z, _⟩ | z
        · have := (List.getElem?_eq_some_iff.mp z).1
          omega
        · exact z
      obtain ⟨r2, e2⟩ := r.freeze h1 ha h0
      have hs : (S'.set j (a, [], .dead)).take S.length = S'.take S.length := by rw [List.take_set_of_le hj]
      have e3 := (e.trans e2).takeR
      rw [hs] at e3
      refine k v H' (S'.take S.length) _ (.d (.list ds)) (by have := r2.take S.length; rw [hs] at this; exact this) e3 ?_ (by rw [ht]; exact q) (by rw [List.length_take]; omega)
      rw [h2]
      exact .lst upd_same (hd.mono e2.v)
theorem slots_start {N : List Str} {vs : List L2.V} {dvs : List DV} (d : DVs K S V vs dvs) : Slots K S V (L2.start N vs) (startG N dvs) := by
  have hl := dvs_len d
  refine ⟨by unfold L2.start startG; simp [hl], fun i dv h => ?_⟩
  unfold startG at h
  unfold L2.start
  by_cases hi : i < dvs.length
  · rw [List.getElem?_append_left (by rw [List.length_map]; exact hi), List.getElem?_map, List.getElem?_eq_getElem hi] at h
    have h' : dvs[i] = dv := by simpa using h
    have get : ∀ {vs : List L2.V} {dvs : List DV} {i : Nat} {dv : DV}, DVs K S V vs dvs → dvs[i]? = some dv → ∃ v, vs[i]? = some v ∧ DVat K S V v dv := by
      intro vs dvs i dv d
      induction d generalizing i with
      | nil => intro h; simp at h
      | cons h1 h2 ih =>
        intro h
        cases i with
        | zero => simp at h; subst h; exact ⟨_, rfl, h1⟩
        | succ i => exact ih (by simpa using h)
    obtain ⟨v, e1, e2⟩ := get d (List.getElem?_eq_getElem hi)
    rw [h'] at e2
    exact ⟨v, by rw [List.getElem?_append_left (by rw [List.length_map]; omega), List.getElem?_map, e1]; rfl, e2⟩
  · rw [List.getElem?_append_right (by rw [List.length_map]; omega)] at h
    have := List.mem_of_getElem? h
    rw [List.mem_replicate] at this
    cases this.2
end
section
variable {P : Program} {w : World} {K : PySem.W.Frag} {mg : Str → Option Value} {base : Heap}
theorem fnP {x qual : Str} {st : Stmt} {f : Addr} {fd : FuncData} {N ps : List Str} {k : Nat} {psp : PSp} {F : PTS} (Fn : Fun K x qual st f fd) (Sc : FnScope N ps (defScope st))
    (body : ∀ (cdv : Value) (A : Around) (outer : List Env) (s : Shared) (H : Hp) (E : XK), Room k (A.deeper (envOfC qual (defScope st) s.heap.objs.size f cdv)) → ∀ R : Fr, BW (cxOf CX0 P w K mg base N qual (defScope st) f cdv A outer s H E).nox R (defBody st) F)
    (h : ∀ dvs O PQ, psp dvs O PQ → dvs.length = ps.length ∧ F { nx := fun _ O' => RetN O.length PQ (.d .none) O', rt := RetN O.length PQ } (startG N dvs) O) : FnOk P w K mg base CX0 (k + 1) f fd ps (liftSp K psp) := by
  refine Fn.ok Sc (fun vs H Q E q => ?_) (fun cdv A outer s H vs Q E hr q => ?_)
  · obtain ⟨S, V, dvs, PQ, r, d, q, _⟩ := q
    rw [dvs_len d]
    exact (h dvs _ PQ q).1
  · obtain ⟨S, V, dvs, PQ, r, d, q, k⟩ := q
    have hq := (h dvs _ PQ q).2
    have hl : (obs S).length = S.length := List.length_map ..
    rw [hl] at hq
    refine ⟨_, wB_pss, body cdv A outer s H E hr (.here S V H) S V H _ _ _ _ r (slots_start d) hq ⟨fun σ' H' ⟨S', V', Γ', r', e', sl', q'⟩ => ?_, fun v H' ⟨S', V', dv, r', e', d', q'⟩ => ?_, fun σ' H' ⟨S', V', Γ', r', e', sl', q'⟩ => q'.elim, fun σ' H' ⟨S', V', Γ', r', e', sl', q'⟩ => q'.elim⟩⟩
    · exact retn_ok k r' e' (dv := .d .none) .non q'
    · exact retn_ok k r' e' d' q'
end
/-! ### built-ins -/
section
variable {X : Cx} {R : Fr} {e e2 a b : Expr} {es : List Expr} {fs : PTA} {f g : PTE} {pos p : Pos}
/-- a built-in of pure data that gives one value -/
def BW1 (X : Cx) (R : Fr) (c : Value) (op : List DV → List Ob → QE → Prop) : Prop := ∀ (S : List Cell) (V H : Hp) (vs : List L2.V) (dvs : List DV) (Q : QE), Rep X.K R S V H → DVs X.K S V vs dvs → op dvs (obs S) Q → wC X c vs H (PostE X.K R S V Q)
def qBlt (op : List DV → List Ob → QE → Prop) (fs : PTA) : PTE := fun Γ O Q => fs Γ O fun dvs O1 => op dvs O1 Q
theorem wC_mono {c : Value} {vs : List L2.V} {H : Hp} {Q Q' : VK} (h : wC X c vs H Q) (k : ∀ v H', Q v H' → Q' v H') : wC X c vs H Q' := by
  obtain ⟨r, hr, q⟩ := h
  exact ⟨fun xs H Q => ∃ Q0, (∀ v H, Q0 v H → Q v H) ∧ r xs H Q0, fun pins s σ H xs us Q I rx ⟨Q0, h0, z⟩ => thn (hr pins s σ H xs us Q0 I rx z) fun _ _ ⟨v, H', I', r, q⟩ => ⟨v, H', I', r, h0 v H' q⟩, Q, k, q⟩
theorem ew_blt {x : Str} {id : String} {op : List DV → List Ob → QE → Prop} (hb : BW1 X R (.builtin id) op) (hm : X.mg x = none) (hv : bootBuiltins x = some (.builtin id)) (ha : AW X R (e :: es) fs) (hg : Gl X x := by rfl) (hn : x ≠ "__name__" := by decide) (hdb : (x == ("__debug__" : Str)) = false := by decide)
    (he : starEach (e :: es) X.env = (false, eval e X.env) :: starEach es X.env := by rfl) (hpl : (backTo pos (starEach es X.env)).any (·.1) = false := by rfl) : EW X R (.Call (.Name x p) (e :: es) [] pos) (qBlt op fs) := by
  intro S V H σ Γ Q r sl q
  refine wE_of (pe_callB wC_call hg hm hv wA_pa hn hdb he hpl) (wA_mono (ha S V H σ Γ _ r sl q) fun vs H1 ⟨S1, V1, dvs, r1, e1, d1, q1⟩ => ?_)
  exact wC_mono (hb S1 V1 H1 vs dvs Q r1 d1 q1) fun _ _ z => z.ext e1
theorem ew_ty {x : Str} {T : String} {op : List DV → List Ob → QE → Prop} (hb : BW1 X R (.type T) op) (hm : X.mg x = none) (hv : bootBuiltins x = some (.type T)) (ha : AW X R (e :: es) fs) (hg : Gl X x := by rfl) (hn : x ≠ "__name__" := by decide) (hdb : (x == ("__debug__" : Str)) = false := by decide)
    (he : starEach (e :: es) X.env = (false, eval e X.env) :: starEach es X.env := by rfl) (hpl : (backTo pos (starEach es X.env)).any (·.1) = false := by rfl) : EW X R (.Call (.Name x p) (e :: es) [] pos) (qBlt op fs) := by
  intro S V H σ Γ Q r sl q
  refine wE_of (pe_callTy wC_call hg hm hv wA_pa hn hdb he hpl) (wA_mono (ha S V H σ Γ _ r sl q) fun vs H1 ⟨S1, V1, dvs, r1, e1, d1, q1⟩ => ?_)
  exact wC_mono (hb S1 V1 H1 vs dvs Q r1 d1 q1) fun _ _ z => z.ext e1
def lenO (O : List Ob) (dv : DV) : Option Nat := match rd O dv with
  | some (.list ds) => some ds.length
  | some (.tuple ds) => some ds.length
  | _ => none
def oLen : List DV → List Ob → QE → Prop := fun dvs O Q => match dvs with
  | [dv] => match lenO O dv with
    | some n => Q (.d (.int n)) O
    | none => False
  | _ => False
theorem b_len : BW1 X R (.builtin "len") oLen := by
  intro S V H vs dvs Q r d q
  unfold oLen at q
  split at q
  · rename_i dv
    cases d with
    | cons d1 d2 =>
      cases d2
      split at q
      · rename_i n hn
        unfold lenO at hn
        split at hn
        · rename_i ds h
          cases hn
          obtain ⟨a, xs, rfl, hx, hd⟩ := rd_lst r d1 h
          exact ⟨_, call_len_seq, a, xs, rfl, .inl (SqL.of hx), by rw [hd.length]; exact .hd r (.int _) q⟩
        · rename_i ds h
          cases hn
          obtain ⟨a, xs, rfl, hx, hd⟩ := rd_tup r d1 h
          exact ⟨_, call_len_seq, a, xs, rfl, .inr (same_seqT r.vh hx), by rw [hd.length]; exact .hd r (.int _) q⟩
        · cases hn
      · exact q.elim
  · exact q.elim
def oInt : List DV → List Ob → QE → Prop := fun dvs O Q => match dvs with
  | [.d (.int i)] => Q (.d (.int i)) O
  | [.d (.bool k)] => Q (.d (.int (if k then 1 else 0))) O
  | _ => False
theorem b_int : BW1 X R (.type "int") oInt := by
  intro S V H vs dvs Q r d q
  unfold oInt at q
  split at q
  · cases d with
    | cons d1 d2 => cases d1; cases d2; exact ⟨_, call_int1, .inl ⟨_, rfl, .hd r (.int _) q⟩⟩
  · cases d with
    | cons d1 d2 => cases d1; cases d2; exact ⟨_, call_int1, .inr ⟨_, rfl, .hd r (.int _) q⟩⟩
  · exact q.elim
def oMin2 : List DV → List Ob → QE → Prop := fun dvs O Q => match dvs with
  | [.d (.int i), .d (.int j)] => Q (.d (.int (if j < i then j else i))) O
  | _ => False
def oMax2 : List DV → List Ob → QE → Prop := fun dvs O Q => match dvs with
  | [.d (.int i), .d (.int j)] => Q (.d (.int (if j > i then j else i))) O
  | _ => False
theorem b_min2 (hc : X.calm = true) : BW1 X R (.builtin "min") oMin2 := by
  intro S V H vs dvs Q r d q
  unfold oMin2 at q
  split at q
  · cases d with
    | cons d1 d2 => cases d2 with
      | cons d2 d3 => cases d1; cases d2; cases d3; exact ⟨_, call_min2 hc, _, _, rfl, .hd r (.int _) q⟩
  · exact q.elim
theorem b_max2 (hc : X.calm = true) : BW1 X R (.builtin "max") oMax2 := by
  intro S V H vs dvs Q r d q
  unfold oMax2 at q
  split at q
  · cases d with
    | cons d1 d2 => cases d2 with
      | cons d2 d3 => cases d1; cases d2; cases d3; exact ⟨_, call_max2 hc, _, _, rfl, .hd r (.int _) q⟩
  · exact q.elim
def intsOf : List PyData → Option (List Int)
  | [] => some []
  | .int i :: r => match intsOf r with
    | some is => some (i :: is)
    | none => none
  | _ :: _ => none
theorem intsOf_eq : ∀ {ds : List PyData} {is : List Int}, intsOf ds = some is → ds = is.map .int
  | [], is, h => by cases h; rfl
  | .int i :: r, is, h => by
    unfold intsOf at h
    split at h
    · rename_i js hj
      cases h
      rw [List.map_cons, ← intsOf_eq hj]
    · cases h
  | .none :: _, _, h => by cases h
  | .bool _ :: _, _, h => by cases h
  | .str _ :: _, _, h => by cases h
  | .list _ :: _, _, h => by cases h
  | .tuple _ :: _, _, h => by cases h
  | .dict _ :: _, _, h => by cases h
theorem intsOf_map (is : List Int) : intsOf (is.map .int) = some is := by
  induction is with
  | nil => rfl
  | cons i is ih => rw [List.map_cons]; unfold intsOf; rw [ih]
theorem dqL_ints {K : PySem.W.Frag} {V : Hp} : ∀ {is : List Int} {vs : List L2.V}, DqL K V vs (is.map .int) → vs = is.map .int
  | [], _, h => by cases h; rfl
  | i :: is, _, h => by
    cases h with
    | cons h1 h2 => cases h1; rw [List.map_cons, ← dqL_ints h2]
def sortI (is : List Int) : List Int := is.mergeSort fun x y => decide (x ≤ y)
def oSortI : List DV → List Ob → QE → Prop := fun dvs O Q => match dvs with
  | [dv] => match rd O dv with
    | some (.list ds) => match intsOf ds with
      | some is => Q (.d (.list ((sortI is).map .int))) O
      | none => False
    | _ => False
  | _ => False
theorem b_sortI : BW1 X R (.builtin "sorted") oSortI := by
  intro S V H vs dvs Q r d q
  unfold oSortI at q
  split at q
  · cases d with
    | cons d1 d2 =>
      cases d2
      split at q
      · rename_i ds h
        split at q
        · rename_i is hi
          have he := intsOf_eq hi
          subst he
          obtain ⟨a, xs, rfl, hx, hd⟩ := rd_lst r d1 h
          have hxs := dqL_ints hd
          subst hxs
          refine ⟨_, cr_sortedI, a, is, rfl, SqL.of hx, fun ns' p hp ho hn => ?_⟩
          have := PySem.W.os_sorted_mergeSort hp ho
          have e' : ns' = sortI is := this
          subst e'
          exact .new r hn (.lst upd_same (DqL.ints _)) q
        · exact q.elim
      · exact q.elim
  · exact q.elim
def boolsOf : List PyData → Option (List Bool)
  | [] => some []
  | .bool i :: r => match boolsOf r with
    | some is => some (i :: is)
    | none => none
  | _ :: _ => none
theorem boolsOf_eq : ∀ {ds : List PyData} {is : List Bool}, boolsOf ds = some is → ds = is.map .bool
  | [], is, h => by cases h; rfl
  | .bool i :: r, is, h => by
    unfold boolsOf at h
    split at h
    · rename_i js hj
      cases h
      rw [List.map_cons, ← boolsOf_eq hj]
    · cases h
  | .none :: _, _, h => by cases h
  | .int _ :: _, _, h => by cases h
  | .str _ :: _, _, h => by cases h
  | .list _ :: _, _, h => by cases h
  | .tuple _ :: _, _, h => by cases h
  | .dict _ :: _, _, h => by cases h
theorem boolsOf_map (is : List Bool) : boolsOf (is.map .bool) = some is := by
  induction is with
  | nil => rfl
  | cons i is ih => rw [List.map_cons]; unfold boolsOf; rw [ih]
theorem dqL_bools {K : PySem.W.Frag} {V : Hp} : ∀ {is : List Bool} {vs : List L2.V}, DqL K V vs (is.map .bool) → vs = is.map .bl
  | [], _, h => by cases h; rfl
  | i :: is, _, h => by
    cases h with
    | cons h1 h2 => cases h1; rw [List.map_cons, ← dqL_bools h2]
def oAnyAll (k : List Bool → Bool) : List DV → List Ob → QE → Prop := fun dvs O Q => match dvs with
  | [dv] => match rd O dv with
    | some (.list ds) => match boolsOf ds with
      | some is => Q (.d (.bool (k is))) O
      | none => False
    | _ => False
  | _ => False
theorem b_all (hc : X.calm = true) : BW1 X R (.builtin "all") (oAnyAll fun bs => bs.all id) := by
  intro S V H vs dvs Q r d q
  unfold oAnyAll at q
  split at q
  · cases d with
    | cons d1 d2 =>
      cases d2
      split at q
      · rename_i ds h
        split at q
        · rename_i is hi
          have he := boolsOf_eq hi
          subst he
          obtain ⟨a, xs, rfl, hx, hd⟩ := rd_lst r d1 h
          have hxs := dqL_bools hd
          subst hxs
          exact ⟨_, cr_all hc, a, is, rfl, SqL.of hx, .hd r (.bl _) q⟩
        · exact q.elim
      · exact q.elim
  · exact q.elim
theorem b_any (hc : X.calm = true) : BW1 X R (.builtin "any") (oAnyAll fun bs => bs.any id) := by
  intro S V H vs dvs Q r d q
  unfold oAnyAll at q
  split at q
  · cases d with
    | cons d1 d2 =>
      cases d2
      split at q
      · rename_i ds h
        split at q
        · rename_i is hi
          have he := boolsOf_eq hi
          subst he
          obtain ⟨a, xs, rfl, hx, hd⟩ := rd_lst r d1 h
          have hxs := dqL_bools hd
          subst hxs
          exact ⟨_, cr_any hc, a, is, rfl, SqL.of hx, .hd r (.bl _) q⟩
        · exact q.elim
      · exact q.elim
  · exact q.elim
/-- list(x) of a list or a tuple; tuple(x) -/
def oList : List DV → List Ob → QE → Prop := fun dvs O Q => match dvs with
  | [dv] => match rd O dv with
    | some (.list ds) => Q (.d (.list ds)) O
    | some (.tuple ds) => Q (.d (.list ds)) O
    | _ => False
  | _ => False
def oTuple : List DV → List Ob → QE → Prop := fun dvs O Q => match dvs with
  | [dv] => match rd O dv with
    | some (.list ds) => Q (.d (.tuple ds)) O
    | some (.tuple ds) => Q (.d (.tuple ds)) O
    | _ => False
  | _ => False
theorem b_list : BW1 X R (.type "list") oList := by
  intro S V H vs dvs Q r d q
  unfold oList at q
  split at q
  · cases d with
    | cons d1 d2 =>
      cases d2
      split at q
      · rename_i ds h
        obtain ⟨a, xs, rfl, hx, hd⟩ := rd_lst r d1 h
        exact ⟨_, call_list_of, a, xs, rfl, .inl (SqL.of hx), fun l hl => .new r hl (.lst upd_same (hd.mono (r.new hl).2.v)) q⟩
      · rename_i ds h
        obtain ⟨a, xs, rfl, hx, hd⟩ := rd_tup r d1 h
        exact ⟨_, call_list_of, a, xs, rfl, .inr (same_seqT r.vh hx), fun l hl => .new r hl (.lst upd_same (hd.mono (r.new hl).2.v)) q⟩
      · exact q.elim
  · exact q.elim
theorem b_tuple : BW1 X R (.type "tuple") oTuple := by
  intro S V H vs dvs Q r d q
  unfold oTuple at q
  split at q
  · cases d with
    | cons d1 d2 =>
      cases d2
      split at q
      · rename_i ds h
        obtain ⟨a, xs, rfl, hx, hd⟩ := rd_lst r d1 h
        exact ⟨_, call_tuple_of, a, xs, rfl, .inl ⟨SqL.of hx, fun l hl => .new r hl (.tup (SqT.of upd_same) (hd.mono (r.new hl).2.v)) q⟩⟩
      · rename_i ds h
        obtain ⟨a, xs, rfl, hx, hd⟩ := rd_tup r d1 h
        exact ⟨_, call_tuple_of, a, xs, rfl, .inr ⟨same_seqT r.vh hx, .hd r (.tup hx hd) q⟩⟩
      · exact q.elim
  · exact q.elim
/-! ### isinstance -/
inductive Ty | int | bool | str | list | tuple | dict
def Ty.nm : Ty → String
  | .int => "int" | .bool => "bool" | .str => "str" | .list => "list" | .tuple => "tuple" | .dict => "dict"
def tyN : PyData → String
  | .none => "NoneType" | .bool _ => "bool" | .int _ => "int" | .str _ => "str" | .list _ => "list" | .tuple _ => "tuple" | .dict _ => "dict"
def isB : Ty → PyData → Bool
  | .int, .int _ => true
  | .int, .bool _ => true
  | .bool, .bool _ => true
  | .str, .str _ => true
  | .list, .list _ => true
  | .tuple, .tuple _ => true
  | .dict, .dict _ => true
  | _, _ => false
theorem isB_ok (T : Ty) (d : PyData) : kitB (tyN d) T.nm = some (isB T d) := by
  cases T <;> cases d <;> (simp only [tyN, Ty.nm, isB]; decide +kernel)
theorem ty_dq {K : PySem.W.Frag} {V : Hp} {d : PyData} {v : L2.V} (h : Dq K V v d) : TyX K V v (.type (tyN d)) := by
  cases h with
  | non => exact .base .non
  | bl b => exact .base (.bl b)
  | int i => exact .base (.int i)
  | str x => exact .base (.str x)
  | lst h1 h2 => exact .base (.lst h1)
  | tup h1 h2 =>
    rcases h1 with (h1 | ⟨o, h1⟩) | ⟨o, its, n, h1, h2, _⟩
    · exact .base (.tup h1)
    · exact .fTuple h1
    · exact .kTuple h1 h2
def qIsi (Ts : List Ty) (f : PTE) : PTE := fun Γ O Q => f Γ O fun dv O1 => match rd O1 dv with
  | some d => Q (.d (.bool (Ts.any fun T => isB T d))) O1
  | none => False
theorem ew_isi {x : Str} {T : Ty} {px : Pos} (ha : EW X R a f) (hm : X.mg "isinstance" = none) (hx : X.mg x = none) (hv : bootBuiltins x = some (.type T.nm)) (hg : Gl X "isinstance" := by rfl) (hgx : Gl X x := by rfl) (hn : x ≠ "__name__" := by decide) (hd : (x == ("__debug__" : Str)) = false := by decide)
    (h1 : starEach [a, .Name x px] X.env = (false, eval a X.env) :: starEach [.Name x px] X.env := by rfl) (hpl : (backTo pos (starEach [.Name x px] X.env)).any (·.1) = false := by rfl) (h2 : starEach [.Name x px] X.env = (false, eval (.Name x px) X.env) :: starEach [] X.env := by rfl) :
    EW X R (.Call (.Name "isinstance" p) [a, .Name x px] [] pos) (qIsi [T] f) := by
  intro S V H σ Γ Q r sl q
  refine wE_of (pe_callB call_isi hg hm (by decide +kernel) (pa_cons wE_pe (pa_cons (pe_bltn (v := .ty T.nm) hgx hx hv rfl hn hd) pa_nil h2) h1) (by decide) (by decide) h1 hpl) (wE_mono (ha S V H σ Γ _ r sl q) fun v H1 ⟨S1, V1, dv, r1, e1, d1, q1⟩ => ?_)
  dsimp only at q1
  split at q1
  · rename_i d h
    refine ⟨v, .ty T.nm, _, _, isB T d, rfl, .ty _, ty_dq (rd_dq r1 d1 h), kit_ty (isB_ok T d), PostE.ext e1 (.hd r1 (.bl _) ?_)⟩
    have : ([T].any fun T => isB T d) = isB T d := by simp
    rw [this] at q1
    exact q1
  · exact q1.elim
/-- names of built-in types, in a tuple -/
def tTys (Ts : List Ty) : TA := fun _ H Q => Q (Ts.map fun T => .ty T.nm) H
structure TysA (X : Cx) (es : List Expr) (Ts : List Ty) : Prop where
  pa : PA X es (tTys Ts)
theorem tys_nil : TysA X [] [] := ⟨pa_nil⟩
theorem tys_cons {x : Str} {T : Ty} {Ts : List Ty} {px : Pos} (hr : TysA X es Ts) (hx : X.mg x = none) (hv : bootBuiltins x = some (.type T.nm)) (hgx : Gl X x := by rfl) (hn : x ≠ "__name__" := by decide) (hd : (x == ("__debug__" : Str)) = false := by decide)
    (hs : starEach (.Name x px :: es) X.env = (false, eval (.Name x px) X.env) :: starEach es X.env := by rfl) : TysA X (.Name x px :: es) (T :: Ts) := ⟨pa_cons (pe_bltn (v := .ty T.nm) hgx hx hv rfl hn hd) hr.pa hs⟩
theorem kitAny_ok {K : PySem.W.Frag} (d : PyData) : ∀ Ts : List Ty, PySem.W.kitAny K (.type (tyN d)) (Ts.map fun T => .type T.nm) = some (Ts.any fun T => isB T d)
  | [] => kitAny_nil
  | T :: Ts => by
    rw [List.map_cons, List.any_cons]
    refine kitAny_cons (kit_ty (isB_ok T d)) (fun h => ?_) (fun h => by rw [h]; rfl)
    rw [h, Bool.false_or]
    exact kitAny_ok d Ts
theorem tys_cls : ∀ Ts : List Ty, Paired ClsV (Ts.map fun T => L2.V.ty T.nm) (Ts.map fun T => Value.type T.nm)
  | [] => .nil
  | T :: Ts => .cons (.ty _) (tys_cls Ts)
theorem ew_isiT {Ts : List Ty} {x1} {pt : Pos} (ha : EW X R a f) (hT : TysA X es Ts) (hm : X.mg "isinstance" = none) (hlen : Ts.length ≤ 10 := by decide) (hg : Gl X "isinstance" := by rfl)
    (h1 : starEach [a, .Tuple es x1 pt] X.env = (false, eval a X.env) :: starEach [.Tuple es x1 pt] X.env := by rfl) (hpl : (backTo pos (starEach [.Tuple es x1 pt] X.env)).any (·.1) = false := by rfl) (h2 : starEach [.Tuple es x1 pt] X.env = (false, eval (.Tuple es x1 pt) X.env) :: starEach [] X.env := by rfl) :
    EW X R (.Call (.Name "isinstance" p) [a, .Tuple es x1 pt] [] pos) (qIsi Ts f) := by
  intro S V H σ Γ Q r sl q
  refine wE_of (pe_callB call_isiT hg hm (by decide +kernel) (pa_cons wE_pe (pa_cons (pe_tup hT.pa) pa_nil h2) h1) (by decide) (by decide) h1 hpl) (wE_mono (ha S V H σ Γ _ r sl q) fun v H1 ⟨S1, V1, dv, r1, e1, d1, q1⟩ => ?_)
  have hs : sizeLine = 16777216 := sizeLine_eq
  refine ⟨by rw [List.length_map]; omega, fun tp htp => ?_⟩
  dsimp only at q1
  split at q1
  · rename_i d h
    obtain ⟨v0, f0, h0⟩ := r1.hidden htp
    have r2 : Rep X.K R S1 V1 (upd H1 tp (.tup (Ts.map fun T => .ty T.nm))) := r1.aside v0 f0 h0
    exact ⟨v, tp, _, _, _, _, rfl, upd_same, tys_cls Ts, ty_dq (rd_dq r2 d1 h), kitAny_ok d Ts, PostE.ext e1 (.hd r2 (.bl _) q1)⟩
  · exact q1.elim
end
end PW

namespace PW
open PySem PySem.Spec PyProof.Rows L2
section
variable {X : Cx} {R : Fr} {e e2 a b : Expr} {es : List Expr} {fs : PTA} {f g : PTE} {pos p tpos : Pos}
/-! ### zip, enumerate -/
def okBoth (O : List Ob) (x y : DV) (p q : PyData) : List Ob → Prop := fun O' => okOf O x p O' ∧ okOf O y q O'
def zipD : List PyData → List PyData → List DV
  | x :: xs, y :: ys => .d (.tuple [x, y]) :: zipD xs ys
  | _, _ => []
theorem zipD_get : ∀ {xs ys : List PyData} {i : Nat} {d : DV}, (zipD xs ys)[i]? = some d → ∃ x y, xs[i]? = some x ∧ ys[i]? = some y ∧ d = .d (.tuple [x, y])
  | [], ys, i, d, h => by simp [zipD] at h
  | x :: xs, [], i, d, h => by simp [zipD] at h
  | x :: xs, y :: ys, 0, d, h => by
    simp [zipD] at h
    exact ⟨x, y, rfl, rfl, h.symm⟩
  | x :: xs, y :: ys, i + 1, d, h => by
    obtain ⟨x', y', h1, h2, h3⟩ := zipD_get (xs := xs) (ys := ys) (i := i) (d := d) (by simpa [zipD] using h)
    exact ⟨x', y', by simpa using h1, by simpa using h2, h3⟩
theorem zipD_len : ∀ {xs ys : List PyData}, (zipD xs ys).length = min xs.length ys.length
  | [], ys => by simp [zipD]
  | x :: xs, [] => by simp [zipD]
  | x :: xs, y :: ys => by simp [zipD, zipD_len (xs := xs) (ys := ys)]
def qiZip (fs : PTA) : PTI := fun Γ O Q => fs Γ O fun dvs O1 => match dvs with
  | [x, y] => match rd O1 x, rd O1 y with
    | some (.list xs), some (.list ys) => Q ⟨zipD xs ys, okBoth O1 x y (.list xs) (.list ys)⟩ O1
    | some (.tuple xs), some (.tuple ys) => Q ⟨zipD xs ys, fun _ => True⟩ O1
    | _, _ => False
  | _ => False
theorem rd_ok {K : PySem.W.Frag} {S0 S : List Cell} {V0 V H : Hp} {v : L2.V} {dv : DV} {ds : List PyData} (e : Ext S0 V0 S V) (r : Rep K R S V H) (d0 : DVat K S0 V0 v dv) (e0 : rd (obs S0) dv = some (.list ds)) (ok : okOf (obs S0) dv (.list ds) (obs S)) : ∃ a xs, v = .ref a ∧ H a = some (.lst xs) ∧ DqL K V xs ds := by
  refine rd_lst r (d0.mono e) ?_
  cases dv with
  | d x => exact e0
  | o j => exact ok
  | x ψ => cases e0
theorem iw_zip {elts : List Expr} {kk : Nat} (hm : X.mg "zip" = none) (ha : AW X R [e, e2] fs) (hg : Gl X "zip" := by rfl)
    (hs : starEach [e, e2] X.env = (false, eval e X.env) :: starEach [e2] X.env := by rfl) (hpl : (backTo pos (starEach [e2] X.env)).any (·.1) = false := by rfl) :
    IW X R (.Tuple elts kk tpos) (.Call (.Name "zip" p) [e, e2] [] pos) (qiZip fs) := by
  intro S V H σ Γ Q r sl q P k
  refine ⟨_, RZ.pi_zipA hg hm wA_pa hs hpl, wA_mono (ha S V H σ Γ _ r sl q) fun vs H1 ⟨S1, V1, dvs, r1, e1, d1, q1⟩ => ?_⟩
  dsimp only at q1
  split at q1
  · rename_i x y
    cases d1 with
    | cons dx d2 => cases d2 with
      | cons dy d3 =>
        cases d3
        have hnew : ∀ {S V H H' T} {u w : L2.V} {z z' : PyData}, Rep X.K R S V H → H T = none → H' = upd H T (.tup [u, w]) → Dq X.K V u z → Dq X.K V w z' → ∃ V', Rep X.K R S V' H' ∧ Ext S V S V' ∧ DVat X.K S V' (.ref T) (.d (.tuple [z, z'])) ∧ Same H H' ∧ ∀ b, V' b ≠ none → V b ≠ none ∨ H b = none := by
          intro S V H H' T u w z z' r hT hH h1 h2
          subst hH
          obtain ⟨r', e'⟩ := r.new (o := .tup [u, w]) hT
          refine ⟨_, r', e', .tup (SqT.of upd_same) (.cons (h1.mono e'.v) (.cons (h2.mono e'.v) .nil)), same_new' hT, fun b hb => ?_⟩
          by_cases q : b = T
          · rw [q]; exact .inr hT
          · rw [upd_ne q] at hb; exact .inl hb
        split at q1
        · rename_i xs ys hx hy
          obtain ⟨a, us, rfl, ha', hda⟩ := rd_lst r1 dx hx
          obtain ⟨b, ws, rfl, hb', hdb⟩ := rd_lst r1 dy hy
          refine ⟨a, b, us, ws, rfl, .inl ⟨SqL.of ha', SqL.of hb', k _ S1 V1 H1 _ r1 e1 (fun i S V H e r ok => ?_) q1⟩⟩
          obtain ⟨a', us', ea, ha2, hda2⟩ := rd_ok e r dx hx ok.1
          obtain ⟨b', ws', eb, hb2, hdb2⟩ := rd_ok e r dy hy ok.2
          cases ea; cases eb
          refine ⟨fun d hd => ?_, fun hi => ⟨us', ws', SqL.of ha2, SqL.of hb2, ?_⟩⟩
          · obtain ⟨z, z', h1, h2, rfl⟩ := zipD_get hd
            obtain ⟨u, g1, g2⟩ := hda2.get h1
            obtain ⟨w, g3, g4⟩ := hdb2.get h2
            refine ⟨⟨us', ws', u, w, SqL.of ha2, SqL.of hb2, g1, g3⟩, fun v H' ⟨T, x', y', hv, hT, hH, f1, f2⟩ => ?_⟩
            have i1 := f1 us' (SqL.of ha2)
            have i2 := f2 ws' (SqL.of hb2)
            rw [g1] at i1; rw [g3] at i2
            cases i1; cases i2
            subst hv
            exact hnew r hT hH g2 g4
          · have : (zipD xs ys).length ≤ i := hi
            rw [zipD_len] at this
            rw [hda2.length, hdb2.length]
            omega
        · rename_i xs ys hx hy
          obtain ⟨a, us, rfl, ha', hda⟩ := rd_tup r1 dx hx
          obtain ⟨b, ws, rfl, hb', hdb⟩ := rd_tup r1 dy hy
          refine ⟨a, b, us, ws, rfl, .inr ⟨same_seqT r1.vh ha', same_seqT r1.vh hb', k _ S1 V1 H1 _ r1 e1 (fun i S V H e r ok => ?_) q1⟩⟩
          have ha2 := same_seqT (e.v.trans r.vh) ha'
          have hb2 := same_seqT (e.v.trans r.vh) hb'
          refine ⟨fun d hd => ?_, fun hi => ⟨us, ws, ha2, hb2, ?_⟩⟩
          · obtain ⟨z, z', h1, h2, rfl⟩ := zipD_get hd
            obtain ⟨u, g1, g2⟩ := hda.get h1
            obtain ⟨w, g3, g4⟩ := hdb.get h2
            refine ⟨⟨us, ws, u, w, ha2, hb2, g1, g3⟩, fun v H' ⟨T, x', y', hv, hT, hH, f1, f2⟩ => ?_⟩
            have i1 := f1 us ha2
            have i2 := f2 ws hb2
            rw [g1] at i1; rw [g3] at i2
            cases i1; cases i2
            subst hv
            exact hnew r hT hH (g2.mono e.v) (g4.mono e.v)
          · have : (zipD xs ys).length ≤ i := hi
            rw [zipD_len] at this
            rw [hda.length, hdb.length]
            omega
        · exact q1.elim
  · exact q1.elim
def enumD : Nat → List PyData → List DV
  | _, [] => []
  | k, x :: xs => .d (.tuple [.int (k : Nat), x]) :: enumD (k + 1) xs
theorem enumD_get : ∀ {xs : List PyData} {k i : Nat} {d : DV}, (enumD k xs)[i]? = some d → ∃ x, xs[i]? = some x ∧ d = .d (.tuple [.int ((k + i : Nat) : Int), x])
  | [], k, i, d, h => by simp [enumD] at h
  | x :: xs, k, 0, d, h => by
    simp [enumD] at h
    exact ⟨x, rfl, h.symm⟩
  | x :: xs, k, i + 1, d, h => by
    obtain ⟨x', h1, h3⟩ := enumD_get (xs := xs) (k := k + 1) (i := i) (d := d) (by simpa [enumD] using h)
    refine ⟨x', by simpa using h1, ?_⟩
    rw [h3]
    have : k + 1 + i = k + (i + 1) := by omega
    rw [this]
theorem enumD_len : ∀ {xs : List PyData} {k : Nat}, (enumD k xs).length = xs.length
  | [], k => rfl
  | x :: xs, k => by simp [enumD, enumD_len (xs := xs)]
def qiEnum (fs : PTA) : PTI := fun Γ O Q => fs Γ O fun dvs O1 => match dvs with
  | [x] => match rd O1 x with
    | some (.list xs) => Q ⟨enumD 0 xs, okOf O1 x (.list xs)⟩ O1
    | _ => False
  | _ => False
theorem iw_enum {elts : List Expr} {kk : Nat} (hm : X.mg "enumerate" = none) (ha : AW X R [e] fs) (hg : Gl X "enumerate" := by rfl) (hs : starEach [e] X.env = [(false, eval e X.env)] := by rfl) :
    IW X R (.Tuple elts kk tpos) (.Call (.Name "enumerate" p) [e] [] pos) (qiEnum fs) := by
  intro S V H σ Γ Q r sl q P k
  refine ⟨_, pi_enum hg hm wA_pa hs, wA_mono (ha S V H σ Γ _ r sl q) fun vs H1 ⟨S1, V1, dvs, r1, e1, d1, q1⟩ => ?_⟩
  dsimp only at q1
  split at q1
  · rename_i x
    cases d1 with
    | cons dx d2 =>
      cases d2
      split at q1
      · rename_i xs hx
        obtain ⟨a, us, rfl, ha', hda⟩ := rd_lst r1 dx hx
        refine ⟨a, us, rfl, SqL.of ha', k _ S1 V1 H1 _ r1 e1 (fun i S V H e r ok => ?_) q1⟩
        obtain ⟨a', us', ea, ha2, hda2⟩ := rd_ok e r dx hx ok
        cases ea
        refine ⟨fun d hd => ?_, fun hi => ⟨us', SqL.of ha2, ?_⟩⟩
        · obtain ⟨z, h1, rfl⟩ := enumD_get hd
          obtain ⟨u, g1, g2⟩ := hda2.get h1
          refine ⟨⟨us', u, SqL.of ha2, g1⟩, fun v H' ⟨T, x', hv, hT, hH, f1⟩ => ?_⟩
          have i1 := f1 us' (SqL.of ha2)
          rw [g1] at i1
          cases i1
          subst hv hH
          obtain ⟨r', e'⟩ := r.new (o := .tup [.int (i : Nat), u]) hT
          refine ⟨_, r', e', .tup (SqT.of upd_same) (.cons (by rw [Nat.zero_add]; exact .int _) (.cons (g2.mono e'.v) .nil)), same_new' hT, fun b hb => ?_⟩
          by_cases q : b = T
          · rw [q]; exact .inr hT
          · rw [upd_ne q] at hb; exact .inl hb
        · have : (enumD 0 xs).length ≤ i := hi
          rw [enumD_len] at this
          rw [hda2.length]
          exact this
      · exact q1.elim
  · exact q1.elim
/-! ### name = [..] -/
theorem sw_setLc {i : Nat} {y : Str} {py : Pos} {elt tg iter : Expr} {ifs : List Expr} {scope : Scope} {own : List (Str × Nat)} {w : PTI} {gt : PTG} {t : PTT} {spos : Pos} (hc : X.calm = true) (hN : X.N.Nodup) (hi : IW X R tg iter w) (ok : BlkOk X.N X.env.scope scope own)
    (hg : ∀ (s : Shared) (H : Hp) (C : Addr) (cl : List (Str × Addr)) (fp : List Addr) (R : Fr), GC (X.blk s H scope (compEnvC scope cl C X.env) fp) R (own.map (·.2)) tg gt)
    (ht : ∀ (s : Shared) (H : Hp) (C : Addr) (cl : List (Str × Addr)) (fp : List Addr) (R : Fr), IfW (X.blk s H scope (compEnvC scope cl C X.env) fp) R ifs t)
    (he : ∀ (s : Shared) (H : Hp) (C : Addr) (cl : List (Str × Addr)) (fp : List Addr) (R : Fr), EW (X.blk s H scope (compEnvC scope cl C X.env) fp) R elt f)
    (hy : X.N[i]? = some y := by rfl) (hyl : X.env.scope.names.lookup y = some .local := by rfl) (hsw : swapsWith (.ListComp elt [⟨tg, iter, ifs, 0⟩] scope pos) (some (.Name y py)) spos.line X.env = pure true := by exact sw_true rfl rfl rfl (by decide +kernel))
    (hs : ∀ x, foldedSetIterable iter X.env x = pure x := by intro _; rfl) :
    SW X R (.Assign [.Name y py] (.ListComp elt [⟨tg, iter, ifs, 0⟩] scope pos) spos) (qSet i (qLc (own.map (·.2)) w gt t f)) := by
  intro S V H σ Γ PD D r sl q k
  refine wS_of (ps_setLc (g := fun v σ Hh P => ∀ s H C cl fp, wG (X.blk s H scope (compEnvC scope cl C X.env) fp) tg v σ Hh P) (tt := fun σ Hh P => ∀ s H C cl fp, wTs (X.blk s H scope (compEnvC scope cl C X.env) fp) ifs σ Hh P)
    (te := fun σ Hh P => ∀ s H C cl fp, wE (X.blk s H scope (compEnvC scope cl C X.env) fp) elt σ Hh P) hc hN hy hyl hsw wI_pi ok (fun s H C cl fp => ⟨fun pins s' σ Hh v u P I rv h => wG_pg.run pins s' σ Hh v u P I rv (h s H C cl fp)⟩)
    (fun s H C cl fp => ⟨fun pins s' σ Hh P I h => wTs_pts.run pins s' σ Hh P I (h s H C cl fp)⟩) (fun s H C cl fp => ⟨fun pins s' σ Hh P I h => h s H C cl fp pins s' I⟩) hs) ?_
  refine lc_read hi hg ht he r sl q fun v H1 ⟨S1, V1, dv, r1, e1, d1, q1⟩ => ?_
  exact k.nx _ H1 ⟨S1, V1, _, r1, e1, (sl.mono e1).set i d1, q1⟩
/-! ### list(range(..)) -/
def qListRg (w : PTI) : PTE := fun Γ O Q => w Γ O fun it O1 => match dats it.xs with
  | some ds => ds.length ≤ 16777216 ∧ Q (.d (.list ds)) O1
  | none => False
def rgD (lo : Int) (n : Nat) : List PyData := (List.range n).map fun (i : Nat) => .int (lo + i)
def qListRg1 (f : PTE) : PTE := fun Γ O Q => f Γ O fun x O1 => match x with
  | .d (.int n) => (0 ≤ n ∧ n ≤ 100000) ∧ Q (.d (.list (rgD 0 n.toNat))) O1
  | _ => False
def qListRg2 (f g : PTE) : PTE := fun Γ O Q => f Γ O fun x O1 => g Γ O1 fun y O2 => match x, y with
  | .d (.int m), .d (.int n) => (-100000 ≤ m ∧ m ≤ 100000 ∧ -100000 ≤ n ∧ n ≤ 100000) ∧ Q (.d (.list (rgD m (n - m).toNat))) O2
  | _, _ => False
theorem dq_rg {K : PySem.W.Frag} {V : Hp} (a : Int) (n : Nat) : DqL K V ((List.range n).map fun i => L2.V.int (a + (i : Nat))) (rgD a n) := by
  have : ∀ xs : List Nat, DqL K V (xs.map fun i => L2.V.int (a + (i : Nat))) (xs.map fun i => PyData.int (a + (i : Nat))) := by
    intro xs
    induction xs with
    | nil => exact .nil
    | cons x xs ih => exact .cons (.int _) ih
  exact this _
theorem ew_listRg1 {pr : Pos} (hc : X.calm = true) (hm : X.mg "list" = none) (hr : X.mg "range" = none) (ha : EW X R a f) (hg : Gl X "list" := by rfl) (hgr : Gl X "range" := by rfl) (na : starEach [a] X.env = (false, eval a X.env) :: starEach [] X.env := by rfl) {p2 : Pos}
    (nb : starEach [.Call (.Name "range" pr) [a] [] p2] X.env = (false, eval (.Call (.Name "range" pr) [a] [] p2) X.env) :: starEach [] X.env := by rfl) : EW X R (.Call (.Name "list" p) [.Call (.Name "range" pr) [a] [] p2] [] pos) (qListRg1 f) := by
  intro S V H σ Γ Q r sl q
  refine wE_of (pe_listRg hc hg hm (prg_1 hgr hr wE_pe na) nb) (wE_mono (ha S V H σ Γ _ r sl q) fun v H1 ⟨S1, V1, da, r1, e1, d1, q1⟩ => ?_)
  dsimp only at q1
  split at q1
  · rename_i n
    cases d1
    refine ⟨n, rfl, ⟨by omega, by omega, by omega, by omega, by omega⟩, fun l hl => ?_⟩
    have := q1.2
    refine (PostE.new r1 hl (.lst upd_same ?_) q1.2).ext e1
    unfold rgV
    rw [Int.sub_zero]
    exact dq_rg 0 n.toNat
  · exact q1.elim
theorem ew_listRg2 {pr : Pos} (hc : X.calm = true) (hm : X.mg "list" = none) (hr : X.mg "range" = none) (ha : EW X R a f) (hb : EW X R b g) (hg : Gl X "list" := by rfl) (hgr : Gl X "range" := by rfl) (na : starEach [a, b] X.env = (false, eval a X.env) :: starEach [b] X.env := by rfl)
    (na2 : starEach [b] X.env = (false, eval b X.env) :: starEach [] X.env := by rfl) {p2 : Pos} (hp : (backTo p2 (starEach [b] X.env)).any (·.1) = false := by rfl)
    (nb : starEach [.Call (.Name "range" pr) [a, b] [] p2] X.env = (false, eval (.Call (.Name "range" pr) [a, b] [] p2) X.env) :: starEach [] X.env := by rfl) : EW X R (.Call (.Name "list" p) [.Call (.Name "range" pr) [a, b] [] p2] [] pos) (qListRg2 f g) := by
  intro S V H σ Γ Q r sl q
  refine wE_of (pe_listRg hc hg hm (prg_2 hgr hr wE_pe wE_pe na na2 hp) nb) (wE_mono (ha S V H σ Γ _ r sl q) fun v H1 ⟨S1, V1, da, r1, e1, d1, q1⟩ => ?_)
  refine wE_mono (hb S1 V1 H1 σ Γ _ r1 (sl.mono e1) q1) fun u H2 ⟨S2, V2, db, r2, e2, d2, q2⟩ => ?_
  dsimp only at q2
  split at q2
  · cases d1; cases d2
    refine ⟨_, _, rfl, rfl, ⟨by omega, by omega, by omega, by omega, by omega⟩, fun l hl => ?_⟩
    exact (PostE.new r2 hl (.lst upd_same (dq_rg _ _)) q2.2).ext (e1.trans e2)
  · exact q2.elim
/-! ### lists that change -/
def qAppend (f g : PTE) : PTE := fun Γ O Q => f Γ O fun x O1 => match rd O1 x with
  | some (.list _) => g Γ O1 fun y O2 => match x, y with
    | .o i, .d z => match O2[i]? with
      | some (.lst ds) => ds.length < 100000 ∧ Q (.d .none) (O2.set i (.lst (ds ++ [z])))
      | _ => False
    | _, _ => False
  | _ => False
theorem own_lst {K : PySem.W.Frag} {S : List Cell} {V H : Hp} {i : Nat} {v : L2.V} {ds : List PyData} (r : Rep K R S V H) (d : DVat K S V v (.o i)) (h : (obs S)[i]? = some (.lst ds)) : ∃ a xs, v = .ref a ∧ S[i]? = some (a, [a], .lst ds) ∧ H a = some (.lst xs) ∧ DqL K V xs ds := by
  obtain ⟨c, hc, rfl⟩ := d
  obtain ⟨c', hc', ho⟩ := obs_get h
  rw [hc] at hc'; cases hc'
  have := r.own i c hc
  rw [ho] at this
  obtain ⟨h1, xs, h2, h3⟩ := this
  obtain ⟨a, fs, o⟩ := c
  dsimp only at h1 h2 ho
  subst h1 ho
  exact ⟨a, xs, rfl, hc, h2, h3⟩
theorem ew_append {o : Expr} {apos cpos : Pos} (ho : EW X R o f) (ha : EW X R a g) (hbase : attributeBase o "append" X.env (eval o X.env) = eval o X.env := by rfl)
    (hfew : ((backTo cpos (starEach [a] X.env)).all (fun x => !x.1) && (backToKw cpos (keywordEach [] X.env)).all (fun x => x.1.isSome) && decide ([a].length + ([] : List Keyword).length + (if ([] : List Keyword).isEmpty then 0 else 1) < 30)) = true := by rfl)
    (hline : (apos.endLine == cpos.line) = true := by rfl) (hs : starEach [a] X.env = (false, eval a X.env) :: starEach [] X.env := by rfl) (hplain : (backTo cpos (starEach [] X.env)).any (·.1) = false := by rfl) : EW X R (.Call (.Attribute o "append" apos) [a] [] cpos) (qAppend f g) := by
  intro S V H σ Γ Q r sl q
  refine wE_of (pe_bm PySem.F.plainAttrs_list PySem.F.slot_list_append PySem.F.type_list_append mt_append wE_pe (pa_cons wE_pe pa_nil hs) hbase hfew hline hs hplain) (wE_mono (ho S V H σ Γ _ r sl q) fun v H1 ⟨S1, V1, da, r1, e1, d1, q1⟩ => ?_)
  dsimp only at q1
  split at q1
  · rename_i ds0 h0
    obtain ⟨a0, xs0, rfl, hx0, hd0⟩ := rd_lst r1 d1 h0
    refine ⟨.inl ⟨rfl, xs0, SqL.of hx0⟩, wE_mono (ha S1 V1 H1 σ Γ _ r1 (sl.mono e1) q1) fun u H2 ⟨S2, V2, db, r2, e2, d2, q2⟩ => ?_⟩
    dsimp only at q2
    split at q2
    · rename_i _ _ i z _
      split at q2
      · rename_i ds h1
        obtain ⟨a1, xs, ea, hc, hx, hd⟩ := own_lst r2 (d1.mono e2) h1
        cases ea
        have hs : sizeLine = 16777216 := sizeLine_eq
        have hl := hd.length
        obtain ⟨r3, e3⟩ := r2.put (o := .lst (xs ++ [u])) (ob' := .lst (ds ++ [z])) hc ⟨rfl, xs ++ [u], upd_same, hd.append (DqL.one d2)⟩
        refine ⟨a0, xs, u, rfl, rfl, hx, by omega, ?_⟩
        refine ⟨_, _, .d .none, r3, (e1.trans e2).trans e3, .non, ?_⟩
        rw [obs_set]
        exact q2.2
      · exact q2.elim
    · exact q2.elim
  · exact q1.elim
end
end PW

namespace PW
open PySem PySem.Spec PyProof.Rows L2
/-- a def of the top: where it stands, and how its arguments bind -/
structure Def (K : PySem.W.Frag) (mg : Str → Option Value) (x : Str) (st : Stmt) (ps : List Str) (f : Addr) (fd : FuncData) : Prop where
  F : Fun K x x st f fd
  m : mg x = some (.ref f)
  b : Binds K fd ps []
/-- the built-ins' names are free -/
structure Txt (K : PySem.W.Frag) (mg : Str → Option Value) : Prop where
  str : mg "str" = none
  dict : mg "dict" = none
  set : mg "set" = none
  sorted : mg "sorted" = none
  range : mg "range" = none
  min : mg "min" = none
  max : mg "max" = none
  sum : mg "sum" = none
  len : mg "len" = none
  int : mg "int" = none
  isi : mg "isinstance" = none
  all : mg "all" = none
  any : mg "any" = none
  zip : mg "zip" = none
  enumerate : mg "enumerate" = none
  list : mg "list" = none
  tuple : mg "tuple" = none
  bool : mg "bool" = none
  repr : mg "repr" = none
/-- a constant of the module -/
structure ModC (K : PySem.W.Frag) (mg : Str → Option Value) (x : Str) (d : PyData) (v : L2.V) (u : Value) : Prop where
  m : mg x = some u
  r : RelV v u
  d : ∀ V, Dq K V v d
theorem hu65 {A : Around} {k : Nat} (hr : Room k A) : A.units + 65 < cLine := by
  have := hr.un
  omega
def qNever : PTS := fun _ _ _ => False
theorem sw_never {X : Cx} {R : Fr} {st : Stmt} : SW X R st qNever := fun _ _ _ _ _ _ _ _ _ q _ => q.elim
/-! ### the script -/
def scriptψ (K : PySem.W.Frag) (ns : List Int) : Hp → L2.V → Prop := fun V v => ∃ a, v = .ref a ∧ SqL K V a (ns.map L2.V.int)
theorem script_at {K : PySem.W.Frag} {ns : List Int} {S : List Cell} {V H : Hp} {R : Fr} {v : L2.V} (r : Rep K R S V H) (d : DVat K S V v (.x (scriptψ K ns))) : ∃ a, v = .ref a ∧ SqL K H a (ns.map L2.V.int) := d H r.vh
theorem script_mono {K : PySem.W.Frag} {ns : List Int} {V V' : Hp} {v : L2.V} (s : Same V V') (h : scriptψ K ns V v) : scriptψ K ns V' v := by
  obtain ⟨a, e, h⟩ := h
  exact ⟨a, e, s.seq h⟩
section
variable {X : Cx} {R : Fr} {e a b : Expr} {f g : PTE} {pos p : Pos}
def qLenX (K : PySem.W.Frag) (f : PTE) : PTE := fun Γ O Q => f Γ O fun dv O1 => ∃ ns, dv = .x (scriptψ K ns) ∧ Q (.d (.int (ns.length : Nat))) O1
theorem ew_lenX {K : PySem.W.Frag} (hK : X.K = K) (hm : X.mg "len" = none) (ha : EW X R a f) (hg : Gl X "len" := by rfl) (he : starEach [a] X.env = (false, eval a X.env) :: starEach [] X.env := by rfl) (hpl : (backTo pos (starEach [] X.env)).any (·.1) = false := by rfl) : EW X R (.Call (.Name "len" p) [a] [] pos) (qLenX K f) := by
  subst hK
  intro S V H σ Γ Q r sl q
  refine wE_of (pe_callB call_len_seq hg hm PySem.boot_len (pa_cons wE_pe pa_nil he) (by decide) (by decide) he hpl) (wE_mono (ha S V H σ Γ _ r sl q) fun v H1 ⟨S1, V1, dv, r1, e1, d1, ns, h, q1⟩ => ?_)
  subst h
  obtain ⟨a, rfl, hs⟩ := script_at r1 d1
  exact ⟨a, _, rfl, .inl hs, by rw [List.length_map]; exact PostE.ext e1 (.hd r1 (.int _) q1)⟩
def qIxX (K : PySem.W.Frag) (f g : PTE) : PTE := fun Γ O Q => f Γ O fun x O1 => g Γ O1 fun y O2 => ∃ ns k n, x = .x (scriptψ K ns) ∧ y = .d (.int k) ∧ atI ns k = some n ∧ Q (.d (.int n)) O2
theorem ew_ixX {K : PySem.W.Frag} (hK : X.K = K) (ha : EW X R a f) (hb : EW X R b g) (hs : PlainIx b := by exact fun _ _ => rfl) : EW X R (.Subscript a b pos) (qIxX K f g) := by
  subst hK
  intro S V H σ Γ Q r sl q
  refine wE_of (pe_ix ix_list wE_pe wE_pe hs) (wE_mono (ha S V H σ Γ _ r sl q) fun v H1 ⟨S1, V1, da, r1, e1, d1, q1⟩ => ?_)
  refine wE_mono (hb S1 V1 H1 σ Γ _ r1 (sl.mono e1) q1) fun u H2 ⟨S2, V2, db, r2, e2, d2, q2⟩ => ?_
  obtain ⟨ns, k, n, rfl, rfl, h, q3⟩ := q2
  cases d2
  obtain ⟨a, rfl, hq⟩ := script_at r2 (d1.mono e2)
  refine ⟨a, _, k, .int n, rfl, rfl, hq, ?_, PostE.ext (e1.trans e2) (.hd r2 (.int _) q3)⟩
  unfold atI at h ⊢
  rw [List.length_map]
  cases z : ixN ns.length k with
  | none => rw [z] at h; cases h
  | some j =>
    rw [z] at h
    have h' : ns[j]? = some n := h
    show (ns.map L2.V.int)[j]? = some (.int n)
    rw [List.getElem?_map, h']; rfl
/-- a list that has just been made, and will change -/
def qOwn (f : PTE) : PTE := fun Γ O Q => f Γ O fun dv O1 => match dv with
  | .d (.list ds) => Q (.o O1.length) (O1 ++ [.lst ds])
  | _ => False
end
/-! ### promises of the law's helpers -/
def pspSource (K : PySem.W.Frag) : PSp := fun dvs O Q => ∃ ns k, dvs = [.x (scriptψ K ns), .d (.int k)] ∧ O = [] ∧ 0 ≤ k ∧ k ≤ 1000 ∧ Q (.o 0) [.dr]
def pspDraw : PSp := fun dvs O Q => ∃ m, dvs = [.o 0, .d (.int m)] ∧ O = [.dr] ∧ 0 < m ∧ m ≤ 1000 ∧ ∀ r : Int, 0 ≤ r → r < m → Q (.d (.int r)) [.dr]
def pspPick : PSp := fun dvs O Q => ∃ ds : List PyData, dvs = [.o 0, .d (.list ds)] ∧ O = [.dr] ∧ 0 < ds.length ∧ ds.length ≤ 1000 ∧ ∀ d, d ∈ ds → Q (.d d) [.dr]
end PW

namespace PW
open PySem PySem.Spec PyProof.Rows L2
def But (d : Addr) (H H' : Hp) : Prop := ∀ b o, b ≠ d → H b = some o → H' b = some o
theorem But.trans {d : Addr} {H H1 H2 : Hp} (a : But d H H1) (b : But d H1 H2) : But d H H2 := fun c o n h => b c o n (a c o n h)
theorem But.upd {d : Addr} {H : Hp} {o : HO} : But d H (L2.upd H d o) := fun b u n h => by rw [upd_ne n]; exact h
section
variable {K : PySem.W.Frag} {R : Fr} {S S' : List Cell} {V V' H H' : Hp}
theorem Rep.putB (r : Rep K R S V H) {i : Nat} {a : Addr} {ob ob' : Ob} (hi : S[i]? = some (a, [a], ob)) (hb : But a H H') (ho : OwnAt K V H' a [a] ob') (hn : H' a ≠ none) : Rep K R (S.set i (a, [a], ob')) V H' ∧ Ext S V (S.set i (a, [a], ob')) V := by
  obtain ⟨va, ha, fa⟩ := r.foot i _ hi a (List.mem_singleton_self a)
  have vh : Same V H' := fun b u e => hb b u (ne_of_none e va) (r.vh b u e)
  have get : ∀ {j : Nat} {c : Cell}, (S.set i (a, [a], ob'))[j]? = some c → (j ≠ i ∧ S[j]? = some c) ∨ (j = i ∧ c = (a, [a], ob')) := fun {j c} e => by
    rw [List.getElem?_set] at e
    by_cases hj : i = j
    · subst hj
      rw [if_pos rfl, if_pos (List.getElem?_eq_some_iff.mp hi).1] at e
      cases e; exact .inr ⟨rfl, rfl⟩
    · rw [if_neg hj] at e; exact .inl ⟨fun z => hj z.symm, e⟩
  have nn : ∀ {b : Addr}, H b ≠ none → H' b ≠ none := fun {b} h => by
    by_cases q : b = a
    · rw [q]; exact hn
    · cases z : H b with
      | none => exact (h z).elim
      | some o => rw [hb b o q z]; simp
  have eqo : ∀ {j : Nat} {c : Cell}, j ≠ i → S[j]? = some c → ∀ b ∈ c.2.1, H' b = H b := fun {j c} hj h b hbm => by
    have n : b ≠ a := fun z => r.sep i j _ c (fun q => hj q.symm) hi h a (List.mem_singleton_self a) (by rw [← z]; exact hbm)
    cases z : H b with
    | none => exact ((r.foot j c h b hbm).2.1 z).elim
    | some o => exact hb b o n z
  refine ⟨⟨r.v0, vh, fun b u hbf e => ?_, fun b hbf => nn (r.f0 b hbf), r.vnew, fun j c e => ?_, fun j c e b hbm => ?_, fun j k c c' hjk e e' b hbm hb' => ?_⟩, ⟨Same.refl _, fun j c h => ?_⟩⟩
  · have n : b ≠ a := fun z => by
      subst z
      rcases Fr.foot_or fa with f | f
      · exact hbf f
      · rw [f] at e; cases e
    exact hb b u n (r.keep b u hbf e)
  · rcases get e with ⟨hj, e⟩ | ⟨_, rfl⟩
    · exact (r.own j c e).stay (Same.refl _) vh fun b hbm => eqo hj e b hbm
    · exact ho
  · rcases get e with ⟨hj, e⟩ | ⟨hji, rfl⟩
    · obtain ⟨h1, h2, h3⟩ := r.foot j c e b hbm
      exact ⟨h1, nn h2, h3⟩
    · rw [hji]
      have hb' : b = a := List.mem_singleton.mp hbm
      rw [hb']
      exact ⟨va, hn, fa⟩
  · rcases get e with ⟨hj, h⟩ | ⟨hj, rfl⟩
    · rcases get e' with ⟨hk, h'⟩ | ⟨hk, rfl⟩
      · exact r.sep j k c c' hjk h h' b hbm hb'
      · have z : b = a := List.mem_singleton.mp hb'
        exact r.sep i j _ c (fun q => hj q.symm) hi h a (List.mem_singleton_self a) (by rw [← z]; exact hbm)
    · rcases get e' with ⟨hk, h'⟩ | ⟨hk, rfl⟩
      · have z : b = a := List.mem_singleton.mp hbm
        exact r.sep i k _ c' (fun q => hk q.symm) hi h' a (List.mem_singleton_self a) (by rw [← z]; exact hb')
      · exact hjk (hj.trans hk.symm)
  · by_cases hj : i = j
    · subst hj
      rw [hi] at h; cases h
      exact ⟨(a, [a], ob'), by rw [List.getElem?_set, if_pos rfl, if_pos (List.getElem?_eq_some_iff.mp hi).1], rfl⟩
    · exact ⟨c, by rw [List.getElem?_set, if_neg hj]; exact h, rfl⟩
theorem own_dr {i : Nat} {v : L2.V} (r : Rep K R S V H) (d : DVat K S V v (.o i)) (h : (obs S)[i]? = some .dr) : ∃ a, v = .ref a ∧ S[i]? = some (a, [a], .dr) ∧ Draws H a := by
  obtain ⟨c, hc, rfl⟩ := d
  obtain ⟨c', hc', ho⟩ := obs_get h
  rw [hc] at hc'; cases hc'
  have := r.own i c hc
  rw [ho] at this
  obtain ⟨h1, h2⟩ := this
  obtain ⟨a, fs, o⟩ := c
  dsimp only at h1 h2 ho
  subst h1 ho
  exact ⟨a, rfl, hc, h2⟩
end
def spDrawH : Sp := fun vs H Q _ => ∃ (d : Addr) (m : Int), vs = [.ref d, .int m] ∧ Draws H d ∧ 0 < m ∧ m ≤ 1000 ∧ ∀ r H', 0 ≤ r → r < m → Draws H' d → But d H H' → Q (.int r) H'
theorem draw_lift {K : PySem.W.Frag} (vs : List L2.V) (H : Hp) (Q : VK) (E : XK) (h : liftSp K pspDraw vs H Q E) : spDrawH vs H Q E := by
  obtain ⟨S, V, dvs, PQ, r, d, ⟨m, rfl, ho, h0, h1, k⟩, kk⟩ := h
  cases d with
  | cons d1 d2 => cases d2 with
    | cons d2 d3 =>
      cases d3; cases d2
      obtain ⟨a, rfl, hc, hd⟩ := own_dr r d1 (by rw [ho]; rfl)
      refine ⟨a, m, rfl, hd, h0, h1, fun n H' n0 n1 hd' hb => ?_⟩
      have hn : H' a ≠ none := by
        obtain ⟨_, _, _, e⟩ := hd'
        rw [e]; simp
      obtain ⟨r', e'⟩ := r.putB (ob' := .dr) hc hb ⟨rfl, hd'⟩ hn
      refine kk (.int n) H' _ V (.d (.int n)) r' e' (.int n) ?_ (by rw [List.length_set]; exact Nat.le_refl _)
      rw [obs_set, ho]
      exact k n n0 n1
def spSourceH (K : PySem.W.Frag) : Sp := fun vs H Q _ => ∃ (a : Addr) (ns : List Int) (k : Int), vs = [.ref a, .int k] ∧ SqL K H a (ns.map L2.V.int) ∧ 0 ≤ k ∧ k ≤ 1000 ∧ ∀ d, H d = none → ∀ x y z : Int, Q (.ref d) (upd H d (.lst [.int x, .int y, .int z]))
theorem source_lift {K : PySem.W.Frag} (vs : List L2.V) (H : Hp) (Q : VK) (E : XK) (h : liftSp K (pspSource K) vs H Q E) : spSourceH K vs H Q E := by
  obtain ⟨S, V, dvs, PQ, r, d, ⟨ns, k, rfl, ho, h0, h1, kq⟩, kk⟩ := h
  have hS : S = [] := by cases S with
    | nil => rfl
    | cons c S => simp [obs] at ho
  subst hS
  cases d with
  | cons d1 d2 => cases d2 with
    | cons d2 d3 =>
      cases d3; cases d2
      obtain ⟨a, rfl, hs⟩ := script_at r d1
      refine ⟨a, ns, k, rfl, hs, h0, h1, fun p hp x y z => ?_⟩
      obtain ⟨r', e'⟩ := r.newOwn (o := .lst [.int x, .int y, .int z]) (ob := .dr) hp ⟨rfl, x, y, z, upd_same⟩
      exact kk (.ref p) _ _ V (.o 0) r' e' ⟨_, rfl, rfl⟩ kq (by simp)
end PW

namespace PW
open PySem PySem.Spec PyProof.Rows L2
/-! ### loops and comprehensions by induction -/
theorem loop_ind {ok : List Ob → Prop} {g : PTG} {body : PTS} {PD : PEnds} (J : List DV → PEnv → List Ob → Prop) (h0 : ∀ Γ O, J [] Γ O → ok O ∧ PD.nx Γ O)
    (hs : ∀ d ds Γ O, J (d :: ds) Γ O → (∀ Γ' O', J ds Γ' O' → qLoop ok g body PD ds Γ' O') → ok O ∧ g d Γ O fun Γ2 O2 => body { PD with nx := qLoop ok g body PD ds, ct := qLoop ok g body PD ds, bk := PD.nx } Γ2 O2) :
    ∀ ds Γ O, J ds Γ O → qLoop ok g body PD ds Γ O
  | [], Γ, O, j => h0 Γ O j
  | d :: ds, Γ, O, j => hs d ds Γ O j (loop_ind J h0 hs ds)
theorem lc_ind {ok : List Ob → Prop} {g : PTG} {t : PTT} {f : PTE} {Q : List PyData → List Ob → Prop} {Γ : PEnv} (J : List DV → List PyData → List Ob → Prop) (h0 : ∀ acc O, J [] acc O → ok O ∧ Q acc O)
    (hs : ∀ d ds acc O, J (d :: ds) acc O → (∀ acc' O', J ds acc' O' → qLcGo ok g t f Q ds acc' Γ O') → ok O ∧ g d Γ O fun Γ1 O1 => t Γ1 O1 fun b O2 => match b with
      | true => f Γ1 O2 fun dv O3 => match dv with
        | .d x => qLcGo ok g t f Q ds (acc ++ [x]) Γ O3
        | _ => False
      | false => qLcGo ok g t f Q ds acc Γ O2) : ∀ ds acc O, J ds acc O → qLcGo ok g t f Q ds acc Γ O
  | [], acc, O, j => h0 acc O j
  | d :: ds, acc, O, j => hs d ds acc O j (lc_ind J h0 hs ds)
/-- an element a function of the item -/
theorem lc_map {ok : List Ob → Prop} {g : PTG} {f : PTE} {Q : List PyData → List Ob → Prop} {Γ : PEnv} {O : List Ob} (h : DV → PyData) (hok : ok O) : ∀ (ds : List DV) (acc : List PyData), (∀ d ∈ ds, ∀ Q' : QE, Q' (.d (h d)) O → g d Γ O fun Γ1 O1 => f Γ1 O1 Q') → Q (acc ++ ds.map h) O → qLcGo ok g qYes f Q ds acc Γ O
  | [], acc, _, q => ⟨hok, by simpa using q⟩
  | d :: ds, acc, hs, q => ⟨hok, hs d List.mem_cons_self _ (lc_map h hok ds (acc ++ [h d]) (fun e he => hs e (List.mem_cons_of_mem _ he)) (by simpa [List.append_assoc] using q))⟩
/-! ### what the laws hold for the same -/
mutual
def dep : PyData → Nat
  | .list ds => depL ds + 1
  | .tuple ds => depL ds + 1
  | _ => 0
def depL : List PyData → Nat
  | [] => 0
  | d :: ds => max (dep d) (depL ds)
end
mutual
def wd : PyData → Nat
  | .list ds => max ds.length (wdL ds)
  | .tuple ds => max ds.length (wdL ds)
  | _ => 0
def wdL : List PyData → Nat
  | [] => 0
  | d :: ds => max (wd d) (wdL ds)
end
mutual
def sm : PyData → PyData → Bool
  | .none, .none => true
  | .str x, .str y => x == y
  | .bool x, .bool y => x == y
  | .int x, .int y => x == y
  | .list xs, .list ys => smL xs ys
  | .tuple xs, .tuple ys => smL xs ys
  | _, _ => false
def smL : List PyData → List PyData → Bool
  | [], [] => true
  | x :: xs, y :: ys => sm x y && smL xs ys
  | _, _ => false
end
theorem smL_len : ∀ (xs ys : List PyData), smL xs ys = true → xs.length = ys.length
  | [], [], _ => rfl
  | [], _ :: _, h => by simp [smL] at h
  | _ :: _, [], h => by simp [smL] at h
  | x :: xs, y :: ys, h => by
    rw [smL, Bool.and_eq_true] at h
    rw [List.length_cons, List.length_cons, smL_len xs ys h.2]
/-- one pair of items told the same -/
def smP : DV → PyData
  | .d (.tuple [x, y]) => .bool (sm x y)
  | _ => .none
def smB : DV → Bool
  | .d (.tuple [x, y]) => sm x y
  | _ => false
theorem smL_zip : ∀ (xs ys : List PyData), xs.length = ys.length → smL xs ys = ((zipD xs ys).map smB).all id
  | [], [], _ => by simp [smL, zipD]
  | [], _ :: _, h => by simp at h
  | _ :: _, [], h => by simp at h
  | x :: xs, y :: ys, h => by
    rw [smL, zipD, List.map_cons, List.all_cons, smL_zip xs ys (by simpa using h)]
    rfl
theorem zipD_mem : ∀ {xs ys : List PyData} {d : DV}, d ∈ zipD xs ys → ∃ x y, x ∈ xs ∧ y ∈ ys ∧ d = .d (.tuple [x, y])
  | x :: xs, y :: ys, d, h => by
    rw [zipD] at h
    rcases List.mem_cons.mp h with rfl | h
    · exact ⟨x, y, List.mem_cons_self, List.mem_cons_self, rfl⟩
    · obtain ⟨a, b, h1, h2, h3⟩ := zipD_mem h
      exact ⟨a, b, List.mem_cons_of_mem _ h1, List.mem_cons_of_mem _ h2, h3⟩
  | [], _, _, h => by simp [zipD] at h
  | _ :: _, [], _, h => by simp [zipD] at h
theorem smP_map (xs ys : List PyData) : (zipD xs ys).map smP = ((zipD xs ys).map smB).map .bool := by
  rw [List.map_map]
  refine List.map_congr_left fun d hd => ?_
  obtain ⟨x, y, _, _, rfl⟩ := zipD_mem hd
  rfl
theorem depL_mem : ∀ {ds : List PyData} {d : PyData}, d ∈ ds → dep d ≤ depL ds
  | x :: ds, d, h => by
    rw [depL]
    rcases List.mem_cons.mp h with rfl | h
    · omega
    · have := depL_mem h
      omega
theorem wdL_mem : ∀ {ds : List PyData} {d : PyData}, d ∈ ds → wd d ≤ wdL ds
  | x :: ds, d, h => by
    rw [wdL]
    rcases List.mem_cons.mp h with rfl | h
    · omega
    · have := wdL_mem h
      omega
def pspSame (n : Nat) : PSp := fun dvs O Q => ∃ x y : PyData, dvs = [.d x, .d y] ∧ O = [] ∧ dep y < n ∧ wd y ≤ 100000 ∧ Q (.d (.bool (sm x y))) []
mutual
def plain : PyData → Bool
  | .list ds => plainL ds
  | .tuple ds => plainL ds
  | .dict _ => false
  | _ => true
def plainL : List PyData → Bool
  | [] => true
  | d :: ds => plain d && plainL ds
end
theorem plainL_mem : ∀ {ds : List PyData} {d : PyData}, plainL ds = true → d ∈ ds → plain d = true
  | x :: ds, d, h, hd => by
    rw [plainL, Bool.and_eq_true] at h
    rcases List.mem_cons.mp hd with rfl | hd
    · exact h.1
    · exact plainL_mem h.2 hd
mutual
theorem Dq.plain {K : PySem.W.Frag} {V : Hp} : ∀ {d : PyData} {v : L2.V}, Dq K V v d → plain d = true
  | .none, _, _ => rfl
  | .bool _, _, _ => rfl
  | .int _, _, _ => rfl
  | .str _, _, _ => rfl
  | .list ds, _, h => by
    cases h with
    | lst h1 h2 => exact DqL.plain h2
  | .tuple ds, _, h => by
    cases h with
    | tup h1 h2 => exact DqL.plain h2
  | .dict _, _, h => by cases h
theorem DqL.plain {K : PySem.W.Frag} {V : Hp} : ∀ {ds : List PyData} {vs : List L2.V}, DqL K V vs ds → plainL ds = true
  | [], _, _ => rfl
  | d :: ds, _, h => by
    cases h with
    | cons h1 h2 => rw [plainL, Bool.and_eq_true]; exact ⟨Dq.plain h1, DqL.plain h2⟩
end
theorem plain_dvs {K : PySem.W.Frag} {S : List Cell} {V : Hp} {vs : List L2.V} {dvs : List DV} (d : DVs K S V vs dvs) : ∀ x, DV.d x ∈ dvs → plain x = true := by
  induction d with
  | nil => intro x h; cases h
  | cons h1 h2 ih =>
    intro x h
    rcases List.mem_cons.mp h with rfl | h
    · exact Dq.plain h1
    · exact ih x h
section
variable {P : Program} {w : World} {K : PySem.W.Frag} {mg : Str → Option Value} {base : Heap}
/-- as fnP; the arguments are of lists, tuples and what is flat -/
theorem fnPd {x qual : Str} {st : Stmt} {f : Addr} {fd : FuncData} {N ps : List Str} {k : Nat} {psp : PSp} {F : PTS} (Fn : Fun K x qual st f fd) (Sc : FnScope N ps (defScope st))
    (body : ∀ (cdv : Value) (A : Around) (outer : List Env) (s : Shared) (H : Hp) (E : XK), Room k (A.deeper (envOfC qual (defScope st) s.heap.objs.size f cdv)) → ∀ R : Fr, BW (cxOf CX0 P w K mg base N qual (defScope st) f cdv A outer s H E).nox R (defBody st) F)
    (h : ∀ dvs O PQ, psp dvs O PQ → (∀ x, DV.d x ∈ dvs → plain x = true) → dvs.length = ps.length ∧ F { nx := fun _ O' => RetN O.length PQ (.d .none) O', rt := RetN O.length PQ } (startG N dvs) O) : FnOk P w K mg base CX0 (k + 1) f fd ps (liftSp K psp) := by
  have := fnP (psp := fun dvs O Q => psp dvs O Q ∧ ∀ x, DV.d x ∈ dvs → plain x = true) (mg := mg) (base := base) (P := P) (w := w) Fn Sc body fun dvs O PQ q => h dvs O PQ q.1 q.2
  refine this.imp fun vs H Q E ⟨S, V, dvs, PQ, r, d, q, k⟩ => ⟨S, V, dvs, PQ, r, d, ⟨q, plain_dvs d⟩, k⟩
end
theorem noD {K : PySem.W.Frag} {V : Hp} {v : L2.V} {kvs : List (PyData × PyData)} : ¬ Dq K V v (.dict kvs) := fun h => nomatch h
end PW

namespace PW
open PySem PySem.Spec PyProof.Rows L2
/-! ### a for whose turns leave no object behind -/
def dropV (m : Nat) : Option DV → Option DV
  | some (.o j) => if j < m then some (.o j) else none
  | some (.d x) => some (.d x)
  | some (.x ψ) => some (.x ψ)
  | none => none
def dropS (m : Nat) (Γ : PEnv) : PEnv := Γ.map (dropV m)
def qLoopW (n0 : Nat) (ok : List Ob → Prop) (g : PTG) (body : PTS) (PD : PEnds) : List DV → QN
  | [] => fun Γ O => ok O ∧ PD.nx Γ O
  | d :: ds => fun Γ O => ok O ∧ g d Γ O fun Γ2 O2 => body { PD with nx := fun Γ O => qLoopW n0 ok g body PD ds (dropS n0 Γ) (O.take n0), ct := fun Γ O => qLoopW n0 ok g body PD ds (dropS n0 Γ) (O.take n0), bk := PD.nx } Γ2 O2
def qForW (w : PTI) (g : PTG) (body : PTS) : PTS := fun PD Γ O => w Γ O fun it O1 => qLoopW O1.length it.ok g body PD it.xs Γ O1
section
variable {K : PySem.W.Frag} {R : Fr} {S S' : List Cell} {V V' H : Hp}
theorem Slots.drop {σ : L2.St} {Γ : PEnv} (h : Slots K S V σ Γ) (m : Nat) : Slots K (S.take m) V σ (dropS m Γ) := by
  refine ⟨by unfold dropS; rw [List.length_map]; exact h.len, fun i dv e => ?_⟩
  unfold dropS at e
  rw [List.getElem?_map] at e
  cases q : Γ[i]? with
  | none => rw [q] at e; cases e
  | some s =>
    rw [q] at e
    have e' : dropV m s = some dv := Option.some.inj e
    cases s with
    | none => cases e'
    | some dw =>
      obtain ⟨v, h1, h2⟩ := h.at_ i dw q
      cases dw with
      | d x => cases e'; exact ⟨v, h1, h2⟩
      | x ψ => cases e'; exact ⟨v, h1, h2⟩
      | o j =>
        have e2 : (if j < m then some (DV.o j) else none) = some dv := e'
        by_cases hj : j < m
        · rw [if_pos hj] at e2
          cases e2
          obtain ⟨c, h2, h3⟩ := h2
          exact ⟨v, h1, c, by rw [List.getElem?_take, if_pos hj]; exact h2, h3⟩
        · rw [if_neg hj] at e2
          cases e2
theorem LiftN.drop {q : QN} {σ : L2.St} {n : Nat} (hn : n = S.length) (h : LiftN K R S V (fun Γ O => q (dropS n Γ) (O.take n)) σ H) : LiftN K R S V q σ H := by
  subst hn
  obtain ⟨S', V', Γ', r, e, sl, z⟩ := h
  exact ⟨S'.take S.length, V', dropS S.length Γ', r.take _, e.takeR, sl.drop _, by rw [show obs (S'.take S.length) = (obs S').take S.length from List.map_take]; exact z⟩
end
section
variable {X : Cx} {R : Fr} {st : Stmt} {pos : Pos}
theorem sw_forW {tg iter : Expr} {body : List Stmt} {w : PTI} {g : PTG} {B : PTS} (hp : PassesOwn (model X.prog X.w) X.A X.env X.xe) (hc : X.calm = true) (hi : IW X R tg iter w) (hg : GW X R tg g) (hb : BW X R body B)
    (hs : ∀ x, foldedSetIterable iter X.env x = pure x := by intro _; rfl) : SW X R (.For tg iter body [] pos) (qForW w g B) := by
  intro S V H σ Γ PD D r sl q k
  refine wS_of (ps_for hp hc wI_pi wG_pg wB_pss hs) ?_
  refine hi S V H σ Γ _ r sl q _ fun J S1 V1 H1 it r1 e1 ok1 q1 => ?_
  have hl1 : (obs S1).length = S1.length := List.length_map ..
  rw [hl1] at q1
  refine ⟨fun i m σ' H' => m + i = it.xs.length ∧ LiftN X.K R S1 V1 (qLoopW S1.length it.ok g B PD (it.xs.drop i)) σ' H', ⟨it.xs.length, rfl, S1, V1, Γ, r1, Ext.refl, sl.mono e1, q1⟩, ?_⟩
  rintro i m σ2 H2 ⟨hm, S2, V2, Γ2, r2, e2, sl2, q2⟩
  by_cases hlt : i < it.xs.length
  · rw [List.drop_eq_getElem_cons hlt] at q2
    obtain ⟨ok2, q2⟩ := q2
    obtain ⟨go, _⟩ := ok1 i S2 V2 H2 e2 r2 ok2
    obtain ⟨g1, g2⟩ := go _ (List.getElem?_eq_getElem hlt)
    refine .inr ⟨g1, LiftN X.K R S1 V1 (qLoopW S1.length it.ok g B PD (it.xs.drop (i + 1))), fun σ' H' z => ⟨m - 1, by omega, by omega, z⟩, fun x H3 y => ?_⟩
    obtain ⟨V3, r3, e3, d3, _, _⟩ := g2 x H3 y
    refine wG_mono (hg S2 V3 H3 σ2 Γ2 x _ _ r3 (sl2.mono e3) d3 q2) fun σ4 H4 ⟨S4, V4, Γ4, r4, e4, sl4, q4⟩ => ?_
    have e14 := (e2.trans e3).trans e4
    exact hb S4 V4 H4 σ4 Γ4 _ _ r4 sl4 q4 ⟨fun σ' H' z => (z.ext e14).drop rfl, fun v H' z => k.rt v H' (z.ext (e1.trans e14)), fun σ' H' z => k.nx σ' H' (z.ext (e1.trans e14)), fun σ' H' z => (z.ext e14).drop rfl⟩
  · have hd : it.xs.drop i = [] := List.drop_eq_nil_of_le (Nat.le_of_not_lt hlt)
    rw [hd] at q2
    obtain ⟨ok2, q2⟩ := q2
    exact .inl ⟨(ok1 i S2 V2 H2 e2 r2 ok2).2 (Nat.le_of_not_lt hlt), k.nx σ2 H2 ⟨S2, V2, Γ2, r2, e1.trans e2, sl2, q2⟩⟩
end
theorem loopW_ind {n0 : Nat} {ok : List Ob → Prop} {g : PTG} {body : PTS} {PD : PEnds} (J : List DV → PEnv → List Ob → Prop) (h0 : ∀ Γ O, J [] Γ O → ok O ∧ PD.nx Γ O)
    (hs : ∀ d ds Γ O, J (d :: ds) Γ O → (∀ (Γ' : PEnv) (O' : List Ob), J ds (dropS n0 Γ') (O'.take n0) → qLoopW n0 ok g body PD ds (dropS n0 Γ') (O'.take n0)) → ok O ∧ g d Γ O fun Γ2 O2 => body { PD with nx := fun Γ O => qLoopW n0 ok g body PD ds (dropS n0 Γ) (O.take n0), ct := fun Γ O => qLoopW n0 ok g body PD ds (dropS n0 Γ) (O.take n0), bk := PD.nx } Γ2 O2) :
    ∀ ds Γ O, J ds Γ O → qLoopW n0 ok g body PD ds Γ O
  | [], Γ, O, j => h0 Γ O j
  | d :: ds, Γ, O, j => hs d ds Γ O j fun Γ' O' j' => loopW_ind J h0 hs ds _ _ j'
theorem join2 {α : Type} {C G : α → Prop} {A : Prop} (main : (∀ c, C c → G c) → A) (rest : ∀ c, C c → G c) : A := main rest
theorem rngD_mem {lo : Int} {n : Nat} {d : DV} (h : d ∈ rngD lo n) : ∃ k : Int, d = .d (.int k) ∧ lo ≤ k ∧ k < lo + n := by
  unfold rngD at h
  obtain ⟨i, hi, rfl⟩ := List.mem_map.mp h
  rw [List.mem_range] at hi
  exact ⟨lo + i, rfl, by omega, by omega⟩
/-! ### more about the same -/
mutual
theorem sm_refl : ∀ {d : PyData}, plain d = true → sm d d = true
  | .none, _ => rfl
  | .bool b, _ => by rw [sm]; exact beq_self_eq_true b
  | .int b, _ => by rw [sm]; exact beq_self_eq_true b
  | .str b, _ => by rw [sm]; exact beq_self_eq_true b
  | .list ds, h => by rw [sm]; exact smL_refl h
  | .tuple ds, h => by rw [sm]; exact smL_refl h
  | .dict _, h => by cases h
theorem smL_refl : ∀ {ds : List PyData}, plainL ds = true → smL ds ds = true
  | [], _ => rfl
  | d :: ds, h => by
    rw [plainL, Bool.and_eq_true] at h
    rw [smL, sm_refl h.1, smL_refl h.2]; rfl
end
theorem cut_take (ds : List PyData) (k : Nat) : cutP ds none (some (k : Int)) = ds.take k := by
  unfold cutP
  rw [HT.sIx_none, HT.sIx_nat, List.drop_zero, Nat.sub_zero]
  by_cases h : k ≤ ds.length
  · rw [Nat.min_eq_left h]
  · rw [Nat.min_eq_right (by omega), List.take_length, List.take_of_length_le (by omega)]
theorem cut_drop (ds : List PyData) (k : Nat) : cutP ds (some (k : Int)) none = ds.drop k := by
  unfold cutP
  rw [HT.sIx_none, HT.sIx_nat]
  by_cases h : k ≤ ds.length
  · rw [Nat.min_eq_left h, List.take_of_length_le (by rw [List.length_drop]; omega)]
  · rw [Nat.min_eq_right (by omega), List.drop_length, List.drop_of_length_le (by omega)]; simp
theorem boolsOf_mapB {α : Type} (xs : List α) (p : α → Bool) : boolsOf (xs.map fun x => PyData.bool (p x)) = some (xs.map p) := by
  have := boolsOf_map (xs.map p)
  rw [List.map_map] at this
  exact this
/-- all([e for ..]), e true throughout -/
theorem all_true {α : Type} {xs : List α} {p : α → Bool} (h : ∀ x ∈ xs, p x = true) : (xs.map p).all id = true := by
  rw [List.all_eq_true]
  intro b hb
  obtain ⟨x, hx, rfl⟩ := List.mem_map.mp hb
  exact h x hx
theorem oAll_read {k : List Bool → Bool} {ds : List PyData} {bs : List Bool} {b : Bool} {O : List Ob} {Q : QE} (h : boolsOf ds = some bs) (e : k bs = b) (q : Q (.d (.bool b)) O) : oAnyAll k [.d (.list ds)] O Q := by
  show (match boolsOf ds with | some is => Q (.d (.bool (k is))) O | none => False)
  rw [h]
  show Q (.d (.bool (k bs))) O
  rw [e]
  exact q
theorem boolsOf_app {α : Type} (xs : List α) (p : α → Bool) : boolsOf ([] ++ xs.map fun x => PyData.bool (p x)) = some (xs.map p) := boolsOf_mapB xs p
end PW

namespace PW
open PySem PySem.Spec PyProof.Rows L2
/-! ### the law itself -/
def pspLaw (K : PySem.W.Frag) : PSp := fun dvs O Q => ∃ ns : List Int, dvs = [.x (scriptψ K ns)] ∧ O = [] ∧ ns.length ≤ 100 ∧ Q (.d (.bool true)) []
def spLawH (K : PySem.W.Frag) : Sp := fun vs H Q _ => ∃ (a : Addr) (ns : List Int), vs = [.ref a] ∧ SqL K H a (ns.map L2.V.int) ∧ ns.length ≤ 100 ∧ ∀ H', Q (.bl true) H'
theorem law_lift {K : PySem.W.Frag} (vs : List L2.V) (H : Hp) (Q : VK) (E : XK) (h : spLawH K vs H Q E) : liftSp K (pspLaw K) vs H Q E := by
  obtain ⟨a, ns, rfl, hs, hn, k⟩ := h
  refine ⟨[], H, [.x (scriptψ K ns)], fun dv _ => dv = .d (.bool true), ⟨Same.refl _, Same.refl _, fun b o _ e => e, fun b hb => (by cases hb), fun b hb => .inl hb, fun i c e => (by simp at e), fun i c e => (by simp at e), fun i j c c' _ e => (by simp at e)⟩, .cons (fun V' s => ⟨a, rfl, s.seq hs⟩) .nil, ⟨ns, rfl, rfl, hn, rfl⟩, fun v H' S' V' dv r e d q _ => ?_⟩
  subst q
  cases d
  exact k H'
theorem walkL {l : PySem.W.OpenLaw} {q : Program} {loose : List Str} {XP : (Str → Option Value) → Heap → Prop} {YP : World → Heap → Prop} {d : DefRec} {K : Params → PySem.W.Frag} (k : Nat) (hk : Room k callerA) (hn : l.most = some 63) (hdf : d.params.defaults = [])
    (hY : ∀ (w : World) (h : Heap), YP w h → (K w.params).In h)
    (F : ∀ (w : World) (mg : Str → Option Value) (fa : Addr) (h : Heap), (K w.params).In h → h.Ns mainGlobals mg → mg d.name = some (.ref fa) →
      ∃ fd : FuncData, (∀ (s : Shared) (u : Value), BindsTo s fd ⟨[u], []⟩ [("_law_script", u)]) ∧ ∀ base : Heap, (K w.params).In base → base.Ns mainGlobals mg → FnOk l.prog w (K w.params) mg base CX0 k fa fd ["_law_script"] (liftSp (K w.params) (pspLaw (K w.params)))) :
    PySem.W.WalkO q loose XP YP l.row.toRowW d [] (fun f vs => PySem.call f vs) :=
  L2.walk_of (n := 63) (k := k) (x := "_law_script") (CX := fun _ => CX0) (sp := fun w => spLawH (K w.params)) hn (by decide) hdf hk hY (fun w mg fa h a b c => by
    obtain ⟨fd, h1, h2⟩ := F w mg fa h a b c
    exact ⟨fd, h1, fun base p q => (h2 base p q).imp law_lift⟩) (fun _ _ a ns hl _ hS => ⟨a, ns, rfl, hS, Nat.le_trans hl (by decide), fun _ => rfl⟩) fun _ _ _ _ _ z => z
end PW

namespace PW
open PySem PySem.Spec PyProof.Rows L2
/-! ### an owned list that will change no more -/
def qFrz (m : Nat) (f : PTE) : PTE := fun Γ O Q => f Γ O fun dv O1 => match dv with
  | .o i => match O1[i]? with
    | some (.lst ds) => m ≤ i ∧ Q (.d (.list ds)) (O1.set i .dead)
    | _ => False
  | .d x => Q (.d x) O1
  | .x ψ => Q (.x ψ) O1
section
variable {X : Cx} {R : Fr} {e : Expr} {f : PTE}
theorem ew_frz {m : Nat} (hR : R.Fs.length = m) (h : EW X R e f) : EW X R e (qFrz m f) := by
  intro S V H σ Γ Q r sl q
  refine wE_mono (h S V H σ Γ _ r sl q) fun v H1 ⟨S1, V1, dv, r1, e1, d1, q1⟩ => ?_
  dsimp only at q1
  split at q1
  · rename_i i
    split at q1
    · rename_i ds h1
      obtain ⟨a, xs, rfl, hc, hx, hd⟩ := own_lst r1 d1 h1
      have h0 : R.H0 a = none := by
        rcases (r1.foot i _ hc a (List.mem_singleton_self a)).2.2 with ⟨fs, z, _⟩ | z
        · have := (List.getElem?_eq_some_iff.mp z).1
          omega
        · exact z
      obtain ⟨r2, e2⟩ := r1.freeze hc hx h0
      refine ⟨_, _, .d (.list ds), r2, e1.trans e2, .lst upd_same (hd.mono e2.v), ?_⟩
      rw [obs_set]
      exact q1.2
    · exact q1.elim
  · exact ⟨S1, V1, _, r1, e1, d1, q1⟩
  · exact ⟨S1, V1, _, r1, e1, d1, q1⟩
end
section
variable {P : Program} {w : World} {K : PySem.W.Frag} {mg : Str → Option Value} {base : Heap}
/-- as fnPd; the def is handed m objects -/
theorem fnPm {x qual : Str} {st : Stmt} {f : Addr} {fd : FuncData} {N ps : List Str} {k : Nat} {psp : PSp} {F : PTS} (m : Nat) (Fn : Fun K x qual st f fd) (Sc : FnScope N ps (defScope st))
    (body : ∀ (cdv : Value) (A : Around) (outer : List Env) (s : Shared) (H : Hp) (E : XK), Room k (A.deeper (envOfC qual (defScope st) s.heap.objs.size f cdv)) → ∀ R : Fr, R.Fs.length = m → BW (cxOf CX0 P w K mg base N qual (defScope st) f cdv A outer s H E).nox R (defBody st) F)
    (h : ∀ dvs O PQ, psp dvs O PQ → (∀ x, DV.d x ∈ dvs → plain x = true) → dvs.length = ps.length ∧ O.length = m ∧ F { nx := fun _ O' => RetN m PQ (.d .none) O', rt := RetN m PQ } (startG N dvs) O) : FnOk P w K mg base CX0 (k + 1) f fd ps (liftSp K psp) := by
  refine Fn.ok Sc (fun vs H Q E q => ?_) (fun cdv A outer s H vs Q E hr q => ?_)
  · obtain ⟨S, V, dvs, PQ, r, d, q, _⟩ := q
    rw [dvs_len d]
    exact (h dvs _ PQ q (plain_dvs d)).1
  · obtain ⟨S, V, dvs, PQ, r, d, q, k⟩ := q
    obtain ⟨_, hm, hq⟩ := h dvs _ PQ q (plain_dvs d)
    have hl : (obs S).length = S.length := List.length_map ..
    have hm' : S.length = m := hl.symm.trans hm
    subst hm'
    refine ⟨_, wB_pss, body cdv A outer s H E hr (.here S V H) (List.length_map ..) S V H _ _ _ _ r (slots_start d) hq ⟨fun σ' H' ⟨S', V', Γ', r', e', sl', q'⟩ => ?_, fun v H' ⟨S', V', dv, r', e', d', q'⟩ => ?_, fun σ' H' ⟨S', V', Γ', r', e', sl', q'⟩ => q'.elim, fun σ' H' ⟨S', V', Γ', r', e', sl', q'⟩ => q'.elim⟩⟩
    · exact retn_ok k r' e' (dv := .d .none) .non q'
    · exact retn_ok k r' e' d' q'
end
/-! ### a filter; ints in a row -/
theorem rgD_app (a : Int) (m n : Nat) : rgD a (m + n) = rgD a m ++ rgD (a + m) n := by
  unfold rgD
  rw [List.range_add, List.map_append, List.map_map]
  congr 1
  refine List.map_congr_left fun i _ => ?_
  show PyData.int (a + ((m + i : Nat) : Int)) = PyData.int (a + m + (i : Int))
  congr 1
  omega
theorem rgP_mem {a : Int} {n : Nat} {d : PyData} (h : d ∈ rgD a n) : ∃ k : Int, d = .int k ∧ a ≤ k ∧ k < a + n := by
  unfold rgD at h
  obtain ⟨i, hi, rfl⟩ := List.mem_map.mp h
  rw [List.mem_range] at hi
  exact ⟨a + i, rfl, by omega, by omega⟩
/-- those of a row of ints that lie between -/
theorem rgD_filter {a A B : Int} {n : Nat} {p : PyData → Bool} (h1 : a ≤ A) (h2 : A ≤ B + 1) (h3 : B < a + n) (hp : ∀ k : Int, a ≤ k → k < a + n → (p (.int k) = true ↔ A ≤ k ∧ k ≤ B)) : (rgD a n).filter p = rgD A (B + 1 - A).toNat := by
  have e : n = (A - a).toNat + ((B + 1 - A).toNat + (a + n - B - 1).toNat) := by omega
  have e2 : rgD a n = rgD a (A - a).toNat ++ (rgD A (B + 1 - A).toNat ++ rgD (B + 1) (a + n - B - 1).toNat) := by
    conv => lhs; rw [e]
    rw [rgD_app, rgD_app]
    congr 1
    · congr 1
      · congr 1; omega
      · congr 1; omega
  rw [e2, List.filter_append, List.filter_append]
  rw [List.filter_eq_nil_iff.mpr, List.filter_eq_self.mpr, List.filter_eq_nil_iff.mpr]
  · simp
  · intro d hd
    obtain ⟨k, rfl, k1, k2⟩ := rgP_mem hd
    intro z
    have := (hp k (by omega) (by omega)).mp z
    omega
  · intro d hd
    obtain ⟨k, rfl, k1, k2⟩ := rgP_mem hd
    exact (hp k (by omega) (by omega)).mpr ⟨by omega, by omega⟩
  · intro d hd
    obtain ⟨k, rfl, k1, k2⟩ := rgP_mem hd
    intro z
    have := (hp k (by omega) (by omega)).mp z
    omega
/-- a comprehension with a test, both functions of the item -/
theorem lc_filt {ok : List Ob → Prop} {g : PTG} {t : PTT} {f : PTE} {Q : List PyData → List Ob → Prop} {Γ : PEnv} {O : List Ob} (h : DV → PyData) (p : DV → Bool) (hok : ok O) : ∀ (ds : List DV) (acc : List PyData),
    (∀ d ∈ ds, ∀ (A : List Ob → Prop) (B : QE), (p d = true → B (.d (h d)) O) → (p d = false → A O) → g d Γ O fun Γ1 O1 => t Γ1 O1 fun b O2 => match b with
      | true => f Γ1 O2 B
      | false => A O2) → Q (acc ++ (ds.filter p).map h) O → qLcGo ok g t f Q ds acc Γ O
  | [], acc, _, q => ⟨hok, by simpa using q⟩
  | d :: ds, acc, hs, q => by
    refine ⟨hok, ?_⟩
    refine hs d List.mem_cons_self (fun O2 => qLcGo ok g t f Q ds acc Γ O2) (fun dv O3 => match dv with | .d x => qLcGo ok g t f Q ds (acc ++ [x]) Γ O3 | _ => False) (fun hp => ?_) (fun hp => ?_)
    · refine lc_filt h p hok ds (acc ++ [h d]) (fun e he => hs e (List.mem_cons_of_mem _ he)) ?_
      rw [List.filter_cons, if_pos hp] at q
      simpa [List.append_assoc] using q
    · refine lc_filt h p hok ds acc (fun e he => hs e (List.mem_cons_of_mem _ he)) ?_
      rw [List.filter_cons, if_neg (by rw [hp]; simp)] at q
      exact q
theorem shaped_rg (a : Int) (n : Nat) : SeqAt.shaped (.list (rgD a n)) = true := by
  have key : ∀ xs : List Nat, PyData.canLayAll0 (xs.map fun (i : Nat) => PyData.int (a + i)) = true ∧ PyData.depthAll (xs.map fun (i : Nat) => PyData.int (a + i)) = 0 := by
    intro xs
    induction xs with
    | nil => exact ⟨rfl, rfl⟩
    | cons x xs ih =>
      obtain ⟨h1, h2⟩ := ih
      rw [List.map_cons]
      simp [PyData.canLayAll0, PyData.depthAll, PyData.canLay0, PyData.depth, h1, h2]
  obtain ⟨h1, h2⟩ := key (List.range n)
  unfold rgD
  simp [SeqAt.shaped, PyData.canLay0, PyData.depth, h1, h2]
end PW

namespace PW
open PySem PySem.Spec PyProof.Rows L2
/-! ### clamps: the mathematics -/
def endD : Option Int → PyData
  | none => .none
  | some i => .int i
structure Cl where
  lo : Option Int
  s : Int
  hi : Option Int
  deriving DecidableEq
def Cl.ok (c : Cl) : Prop := ∀ l h, c.lo = some l → c.hi = some h → l ≤ h
def Cl.ds (c : Cl) : List PyData := [endD c.lo, .int c.s, endD c.hi]
def kwI (x : Int) (lo hi : Option Int) : Int := match lo with
  | some l => if x < l then l else match hi with
    | some h => if x > h then h else x
    | none => x
  | none => match hi with
    | some h => if x > h then h else x
    | none => x
def Cl.act (c : Cl) (x : Int) : Int := kwI (x + c.s) c.lo c.hi
def formC (c : Cl) : Cl := match c.lo, c.hi with
  | some l, some h => ⟨c.lo, if l = h then 0 else c.s, c.hi⟩
  | _, _ => c
def Cl.isForm (c : Cl) : Prop := c.ok ∧ ∀ l, c.lo = some l → c.hi = some l → c.s = 0
def bothC (a b : Cl) : Cl := formC ⟨match a.lo with | none => b.lo | some l => some (kwI (l + b.s) b.lo b.hi), a.s + b.s, match a.hi with | none => b.hi | some h => some (kwI (h + b.s) b.lo b.hi)⟩
def idC : Cl := ⟨none, 0, none⟩
def joinC (cs : List Cl) : Cl := cs.foldl bothC idC
theorem form_act {c : Cl} (h : c.ok) (x : Int) : (formC c).act x = c.act x := by
  obtain ⟨lo, s, hi⟩ := c
  cases lo with
  | none => rfl
  | some l => cases hi with
    | none => rfl
    | some u =>
      have := h l u rfl rfl
      show kwI (x + (if l = u then 0 else s)) (some l) (some u) = kwI (x + s) (some l) (some u)
      by_cases q : l = u
      · subst q
        rw [if_pos rfl]
        simp only [kwI]
        (repeat' split) <;> omega
      · rw [if_neg q]
theorem form_ok {c : Cl} (h : c.ok) : (formC c).ok := by
  obtain ⟨lo, s, hi⟩ := c
  unfold formC
  cases lo with
  | none => exact h
  | some l => cases hi with
    | none => exact h
    | some u => exact h
theorem form_isForm {c : Cl} (h : c.ok) : (formC c).isForm := by
  refine ⟨form_ok h, ?_⟩
  obtain ⟨lo, s, hi⟩ := c
  unfold formC
  intro l h1 h2
  cases lo with
  | none => cases h1
  | some l' => cases hi with
    | none => cases h2
    | some u =>
      dsimp only at h1 h2 ⊢
      cases h1; cases h2
      rw [if_pos rfl]
theorem isForm_form {c : Cl} (h : c.isForm) : formC c = c := by
  obtain ⟨lo, s, hi⟩ := c
  unfold formC
  cases lo with
  | none => rfl
  | some l => cases hi with
    | none => rfl
    | some u =>
      dsimp only
      by_cases q : l = u
      · subst q
        have : s = 0 := h.2 l rfl rfl
        rw [if_pos rfl, this]
      · rw [if_neg q]
theorem kw_mono {x y : Int} {lo hi : Option Int} (h : ∀ l u, lo = some l → hi = some u → l ≤ u) (e : x ≤ y) : kwI x lo hi ≤ kwI y lo hi := by
  unfold kwI
  cases lo with
  | none => cases hi with
    | none => exact e
    | some u => dsimp only; split <;> split <;> omega
  | some l => cases hi with
    | none => dsimp only; split <;> split <;> omega
    | some u =>
      have := h l u rfl rfl
      dsimp only
      split <;> split <;> (try split) <;> (try split) <;> omega
theorem both_pre_ok {a b : Cl} (ha : a.ok) (hb : b.ok) : Cl.ok ⟨match a.lo with | none => b.lo | some l => some (kwI (l + b.s) b.lo b.hi), a.s + b.s, match a.hi with | none => b.hi | some h => some (kwI (h + b.s) b.lo b.hi)⟩ := by
  obtain ⟨la, sa, ua⟩ := a
  obtain ⟨lb, sb, ub⟩ := b
  intro l h e1 e2
  have bt : ∀ {x : Int} {l : Int}, lb = some l → l ≤ kwI x lb ub := by
    intro x l e
    subst e
    unfold kwI
    cases ub with
    | none => dsimp only; split <;> omega
    | some u =>
      have := hb l u rfl rfl
      dsimp only; split <;> (try split) <;> omega
  have tp : ∀ {x : Int} {u : Int}, ub = some u → kwI x lb ub ≤ u := by
    intro x u e
    subst e
    unfold kwI
    cases lb with
    | none => dsimp only; split <;> omega
    | some l =>
      have := hb l u rfl rfl
      dsimp only; split <;> (try split) <;> omega
  cases la with
  | none => cases ua with
    | none => exact hb l h e1 e2
    | some v =>
      dsimp only at e1 e2
      cases e2
      exact bt e1
  | some k => cases ua with
    | none =>
      dsimp only at e1 e2
      cases e1
      exact tp e2
    | some v =>
      dsimp only at e1 e2
      cases e1; cases e2
      have : k ≤ v := ha k v rfl rfl
      exact kw_mono (fun l u => hb l u) (by omega)
theorem both_act {a b : Cl} (ha : a.ok) (hb : b.ok) (x : Int) : (bothC a b).act x = b.act (a.act x) := by
  unfold bothC
  rw [form_act (both_pre_ok ha hb)]
  obtain ⟨la, sa, ua⟩ := a
  obtain ⟨lb, sb, ub⟩ := b
  have hb' : ∀ l u, lb = some l → ub = some u → l ≤ u := fun l u => hb l u
  have ha' : ∀ l u, la = some l → ua = some u → l ≤ u := fun l u => ha l u
  unfold Cl.act
  dsimp only
  cases la with
  | none => cases ua with
    | none =>
      show kwI (x + (sa + sb)) lb ub = kwI (x + sa + sb) lb ub
      rw [Int.add_assoc]
    | some v =>
      dsimp only
      cases lb with
      | none => cases ub with
        | none => grind [kwI]
        | some u => simp only [kwI]; (repeat' split) <;> omega
      | some l => cases ub with
        | none => simp only [kwI]; (repeat' split) <;> omega
        | some u =>
          have := hb' l u rfl rfl
          simp only [kwI]; (repeat' split) <;> omega
  | some k => cases ua with
    | none =>
      dsimp only
      cases lb with
      | none => cases ub with
        | none => simp only [kwI]; (repeat' split) <;> omega
        | some u => simp only [kwI]; (repeat' split) <;> omega
      | some l => cases ub with
        | none => simp only [kwI]; (repeat' split) <;> omega
        | some u =>
          have := hb' l u rfl rfl
          simp only [kwI]; (repeat' split) <;> omega
    | some v =>
      have := ha' k v rfl rfl
      dsimp only
      cases lb with
      | none => cases ub with
        | none => simp only [kwI]; (repeat' split) <;> omega
        | some u => simp only [kwI]; (repeat' split) <;> omega
      | some l => cases ub with
        | none => simp only [kwI]; (repeat' split) <;> omega
        | some u =>
          have := hb' l u rfl rfl
          simp only [kwI]; (repeat' split) <;> omega
theorem both_form {a b : Cl} (ha : a.ok) (hb : b.ok) : (bothC a b).isForm := form_isForm (both_pre_ok ha hb)
theorem id_form : idC.isForm := ⟨fun l h e => (nomatch e), fun l e => (nomatch e)⟩
theorem id_act (x : Int) : idC.act x = x := by simp [idC, Cl.act, kwI]
/-- what clamps make, one behind another -/
def actL (cs : List Cl) (x : Int) : Int := cs.foldl (fun y c => c.act y) x
theorem fold_both : ∀ (cs : List Cl) (a : Cl), a.isForm → (∀ c ∈ cs, c.ok) → (cs.foldl bothC a).isForm ∧ ∀ x, (cs.foldl bothC a).act x = actL cs (a.act x)
  | [], a, h, _ => ⟨h, fun _ => rfl⟩
  | c :: cs, a, h, hc => by
    obtain ⟨h1, h2⟩ := fold_both cs (bothC a c) (both_form h.1 (hc c List.mem_cons_self)) fun d hd => hc d (List.mem_cons_of_mem _ hd)
    refine ⟨h1, fun x => ?_⟩
    rw [List.foldl_cons, h2 x, both_act h.1 (hc c List.mem_cons_self)]
    rfl
theorem join_form {cs : List Cl} (hc : ∀ c ∈ cs, c.ok) : (joinC cs).isForm := (fold_both cs idC id_form hc).1
theorem join_act {cs : List Cl} (hc : ∀ c ∈ cs, c.ok) (x : Int) : (joinC cs).act x = actL cs x := by
  unfold joinC
  rw [(fold_both cs idC id_form hc).2 x, id_act]
/-- far out -/
theorem act_top {c : Cl} {N X : Int} (hl : ∀ l, c.lo = some l → l ≤ N) (hu : ∀ u, c.hi = some u → u ≤ N) (hs : -N ≤ c.s) (hX : 2 * N + 1 ≤ X) : c.act X = match c.hi with | some u => u | none => X + c.s := by
  obtain ⟨lo, s, hi⟩ := c
  unfold Cl.act kwI
  dsimp only at hs hl hu ⊢
  cases lo with
  | none => cases hi with
    | none => rfl
    | some u =>
      have := hu u rfl
      dsimp only
      rw [if_pos (by omega)]
  | some l =>
    have := hl l rfl
    cases hi with
    | none =>
      dsimp only
      rw [if_neg (by omega)]
    | some u =>
      have := hu u rfl
      dsimp only
      rw [if_neg (by omega), if_pos (by omega)]
theorem act_bot {c : Cl} {N X : Int} (hl : ∀ l, c.lo = some l → -N ≤ l) (hu : ∀ u, c.hi = some u → -N ≤ u) (hs : c.s ≤ N) (hX : X ≤ -(2 * N + 1)) : c.act X = match c.lo with | some u => u | none => X + c.s := by
  obtain ⟨lo, s, hi⟩ := c
  unfold Cl.act kwI
  dsimp only at hs hl hu ⊢
  cases lo with
  | none => cases hi with
    | none => rfl
    | some u =>
      have := hu u rfl
      dsimp only
      rw [if_neg (by omega)]
  | some l =>
    have := hl l rfl
    cases hi with
    | none =>
      dsimp only
      rw [if_pos (by omega)]
    | some u =>
      have := hu u rfl
      dsimp only
      rw [if_pos (by omega)]
structure Cl.within (c : Cl) (N : Int) : Prop where
  l1 : ∀ l, c.lo = some l → -N ≤ l
  l2 : ∀ l, c.lo = some l → l ≤ N
  u1 : ∀ l, c.hi = some l → -N ≤ l
  u2 : ∀ l, c.hi = some l → l ≤ N
  s1 : -N ≤ c.s
  s2 : c.s ≤ N
/-- forms that do the same to all from -(2 N + 1) to 2 N + 1 are the same -/
theorem form_at {a b : Cl} {N : Int} (ha : a.isForm) (hb : b.isForm) (wa : a.within N) (wb : b.within N) (h : ∀ x, -(2 * N + 1) ≤ x → x ≤ 2 * N + 1 → a.act x = b.act x) : a = b := by
  have hN : 0 ≤ N := by have := wa.s1; have := wa.s2; omega
  have t1 := act_top (X := 2 * N + 1) wa.l2 wa.u2 wa.s1 (Int.le_refl _)
  have t2 := act_top (X := 2 * N + 1) wb.l2 wb.u2 wb.s1 (Int.le_refl _)
  have b1 := act_bot (X := -(2 * N + 1)) wa.l1 wa.u1 wa.s2 (Int.le_refl _)
  have b2 := act_bot (X := -(2 * N + 1)) wb.l1 wb.u1 wb.s2 (Int.le_refl _)
  have ht := h (2 * N + 1) (by omega) (by omega)
  have hbm := h (-(2 * N + 1)) (by omega) (by omega)
  rw [t1, t2] at ht
  rw [b1, b2] at hbm
  obtain ⟨la, sa, ua⟩ := a
  obtain ⟨lb, sb, ub⟩ := b
  obtain ⟨p1, p2, p3, p4, p5, p6⟩ := wa
  obtain ⟨q1, q2, q3, q4, q5, q6⟩ := wb
  dsimp only at ht hbm p1 p2 p3 p4 p5 p6 q1 q2 q3 q4 q5 q6
  have eu : ua = ub := by
    cases ua with
    | none => cases ub with
      | none => rfl
      | some v => have := q4 v rfl; dsimp only at ht; omega
    | some u => cases ub with
      | none => have := p4 u rfl; dsimp only at ht; omega
      | some v => dsimp only at ht; rw [ht]
  have el : la = lb := by
    cases la with
    | none => cases lb with
      | none => rfl
      | some v => have := q1 v rfl; dsimp only at hbm; omega
    | some u => cases lb with
      | none => have := p1 u rfl; dsimp only at hbm; omega
      | some v => dsimp only at hbm; rw [hbm]
  subst eu el
  have es : sa = sb := by
    cases ua with
    | none => dsimp only at ht; omega
    | some u => cases la with
      | none => dsimp only at hbm; omega
      | some l =>
        have o1 : l ≤ u := ha.1 l u rfl rfl
        by_cases q : l = u
        · subst q
          have e1 : sa = 0 := ha.2 l rfl rfl
          have e2 : sb = 0 := hb.2 l rfl rfl
          omega
        · have a1 := p1 l rfl
          have a2 := p2 l rfl
          have h1 := h (l - sa) (by omega) (by omega)
          have h2 := h (l - sb) (by omega) (by omega)
          simp only [Cl.act, kwI] at h1 h2
          (repeat' split at h1) <;> (repeat' split at h2) <;> omega
  subst es
  rfl
theorem within_max (c : Cl) : ∃ N : Int, 0 ≤ N ∧ ∀ M, N ≤ M → c.within M := by
  obtain ⟨lo, s, hi⟩ := c
  refine ⟨(match lo with | some l => l.natAbs | none => 0 : Nat) + s.natAbs + (match hi with | some l => l.natAbs | none => 0 : Nat), by omega, fun M hM => ?_⟩
  constructor
  · intro l e; dsimp only at e; subst e; dsimp only at hM; omega
  · intro l e; dsimp only at e; subst e; dsimp only at hM; omega
  · intro l e; dsimp only at e; subst e; dsimp only at hM; omega
  · intro l e; dsimp only at e; subst e; dsimp only at hM; omega
  · dsimp only; omega
  · dsimp only; omega
/-- forms that do the same to all are the same -/
theorem form_ext {a b : Cl} (ha : a.isForm) (hb : b.isForm) (h : ∀ x, a.act x = b.act x) : a = b := by
  obtain ⟨N, n0, hN⟩ := within_max a
  obtain ⟨M, m0, hM⟩ := within_max b
  exact form_at (N := N + M) ha hb (hN _ (by omega)) (hM _ (by omega)) fun x _ _ => h x
end PW

namespace PW
open PySem PySem.Spec PyProof.Rows L2
/-! ### kinds, clamps: what the program's defs promise -/
def isListD : PyData → Bool
  | .list _ => true
  | .tuple _ => true
  | _ => false
def isIntD : PyData → Bool
  | .int _ => true
  | _ => false
def isEndD : PyData → Bool
  | .none => true
  | .int _ => true
  | _ => false
/-- the items of a list or a tuple -/
def itemsD : PyData → List PyData
  | .list ds => ds
  | .tuple ds => ds
  | _ => []
/-- a clamp, as a list or as a tuple -/
def IsCl (x : PyData) (c : Cl) : Prop := (x = .list c.ds ∨ x = .tuple c.ds) ∧ c.ok
def pspIsList : PSp := fun dvs O Q => ∃ x, dvs = [.d x] ∧ O = [] ∧ Q (.d (.bool (isListD x))) []
def pspIsInt : PSp := fun dvs O Q => ∃ x, dvs = [.d x] ∧ O = [] ∧ Q (.d (.bool (isIntD x))) []
def pspIsEnd : PSp := fun dvs O Q => ∃ x, dvs = [.d x] ∧ O = [] ∧ Q (.d (.bool (isEndD x))) []
def pspIsClamp : PSp := fun dvs O Q => ∃ x c, dvs = [.d x] ∧ O = [] ∧ IsCl x c ∧ Q (.d (.bool true)) []
def pspCheckClamp : PSp := fun dvs O Q => ∃ x c, dvs = [.d x] ∧ O = [] ∧ IsCl x c ∧ Q (.d .none) []
def pspCheckNumber : PSp := fun dvs O Q => ∃ i, dvs = [.d (.int i)] ∧ O = [] ∧ Q (.d .none) []
def pspKept : PSp := fun dvs O Q => ∃ x lo hi, dvs = [.d (.int x), .d (endD lo), .d (endD hi)] ∧ O = [] ∧ Q (.d (.int (kwI x lo hi))) []
def pspInForm : PSp := fun dvs O Q => ∃ c : Cl, dvs = [.d (endD c.lo), .d (.int c.s), .d (endD c.hi)] ∧ O = [] ∧ Q (.d (.tuple (formC c).ds)) []
def pspFormed : PSp := fun dvs O Q => ∃ x c, dvs = [.d x] ∧ O = [] ∧ IsCl x c ∧ Q (.d (.tuple (formC c).ds)) []
def pspBoth : PSp := fun dvs O Q => ∃ a x b, dvs = [.d (.tuple (Cl.ds a)), .d x] ∧ O = [] ∧ IsCl x b ∧ Q (.d (.tuple (bothC a b).ds)) []
def ClsOf (xs : List PyData) (cs : List Cl) : Prop := Paired IsCl xs cs
def pspAllJoined : PSp := fun dvs O Q => ∃ xs cs, dvs = [.d (.list xs)] ∧ O = [] ∧ ClsOf xs cs ∧ Q (.d (.tuple (joinC cs).ds)) []
def pspJoined : PSp := fun dvs O Q => ∃ xs cs, dvs = [.d (.list xs)] ∧ O = [] ∧ ClsOf xs cs ∧ Q (.d (.tuple (joinC cs).ds)) []
def pspClamped : PSp := fun dvs O Q => ∃ x c i, dvs = [.d x, .d (.int i)] ∧ O = [] ∧ IsCl x c ∧ Q (.d (.int (c.act i))) []
/-- the least and the greatest that a clamp makes into x -/
def shownC (c : Cl) (x : Int) : Option (Option Int × Option Int) := if kwI x c.lo c.hi = x then some (if c.lo = some x then none else some (x - c.s), if c.hi = some x then none else some (x - c.s)) else none
def shownD : Option (Option Int × Option Int) → PyData
  | none => .none
  | some (a, b) => .tuple [endD a, endD b]
def pspShown : PSp := fun dvs O Q => ∃ x c i, dvs = [.d x, .d (.int i)] ∧ O = [] ∧ IsCl x c ∧ Q (.d (shownD (shownC c i))) []
end PW

/-! U23: enumerate of a list or a tuple of data -/
namespace PW
open PySem PySem.Spec PyProof.Rows L2
theorem meets_enumT (v : Value) (o : Obj) (HH : Heap → Prop) (B : Begins v o HH) :
    Meets (Builtin.«enumerate.__new__» ⟨[.type "enumerate", v], []⟩) (fun _ R s => HH s.heap ∧
      R (.ok (.ret (.ref (s.heap.push o).objs.size))) { s with heap := (s.heap.push o).push { cls := .type "enumerate", data := .fields #[.none, .bool false, .ref s.heap.objs.size, rawInt 0, .none, .none] } }) :=
  .of_wp fun prog w A R s hh => by
    obtain ⟨hp, g, d, tk, os⟩ := s
    obtain ⟨h1, hR⟩ := hh
    have sub := sub_enumerate
    have it : ∀ {A' : Around} {E : Value → Shared → Prop} {Q : Value → Shared → Prop}, Q (.ref hp.objs.size) ⟨hp.push o, g, d, tk, os⟩ → wpAny (model prog w) A' (pyIter v) Q E ⟨hp, g, d, tk, os⟩ :=
      fun q => B.iter prog w _ _ ⟨hp, g, d, tk, os⟩ _ h1 q
    wp_walk using it
    refine wpAny_stack_any fun st => wpAny_pure ?_
    split
    · rename_i c _ _ _ _ _
      cases (c == Value.type "enumerate") <;> (wp_walk using it; exact ⟨_, rfl, hR⟩)
    · wp_walk using it
      exact ⟨_, rfl, hR⟩
theorem next_enumT {prog : Program} {w : World} {A : Around} {E : Value → Shared → Prop} {s : Shared} {e it t : Addr} {i : Nat} {items : Array Value} {old : Value} {Q : Option Value → Shared → Prop} (hh : A.handled = none)
    (he : IsEnum s.heap e it i old) (hit : s.heap.IsTupleIter it t i) (ht : s.heap.IsTuple t items) (hx : items[i]? = none) (k : ∀ h', Heap.ExtBut it s.heap h' → Q none { s with heap := h' }) : wpAny (model prog w) A (pyNext (.ref e)) Q E s := by
  have ty : s.TypeIs (.ref e) "enumerate" := ⟨_, he, rfl⟩
  unfold pyNext
  refine wpAny_bind (wpAny_attempt (wpAny_callSpecial?_slot (name := Str.ofString "__next__") ty F.slot_enumerate_next (wpAny_call_entry F.slot_enumerate_next ty F.entry_enumerate_next ?_ (F.args_enumerate_next_1 _))))
  show wpAny _ _ (field (.ref e) 2 >>= _) _ _ _
  refine wpAny_bind (wpAny_field he rfl (x := .ref it) rfl (wpAny_bind (wpAny_nextOf_tuple_end hh hit ht hx fun h' x he' ⟨o, ho, hc⟩ => ?_)))
  exact wpAny_bind (wpAny_isInstance (T := "StopIteration") (b := true) ⟨o, ho, hc⟩ isSubtype_stop (wpAny_pure (k _ he')))
/-- the tuple at a, each item in a new pair -/
def IteT (K : PySem.W.Frag) (a : Addr) : It :=
  ⟨fun i H => ∃ (xs : List L2.V) (x : L2.V), SqT K H a xs ∧ xs[i]? = some x, fun i H v H' => ∃ T x, v = .ref T ∧ H T = none ∧ H' = upd H T (.tup [.int (i : Nat), x]) ∧ ∀ xs, SqT K H a xs → xs[i]? = some x, fun i H => ∃ xs : List L2.V, SqT K H a xs ∧ xs.length ≤ i⟩
theorem turn_enumT {P : Program} {w : World} {K : PySem.W.Frag} {elts : List Expr} {kk : Nat} {tpos : Pos} (a e it : Addr) (hai : a ≠ it) (hae : a ≠ e) :
    Turn P w K (.Tuple elts kk tpos) (IteT K a) [e, it] e (fun i h => (∃ old, IsEnum h e it ((i : Nat) : Int) old) ∧ h.IsTupleIter it a i ∧ e ≠ it) where
  mem := by simp
  obj := fun i h ⟨⟨old, he⟩, ⟨o, ho, _, hd⟩, _⟩ b hb => by
    have : b = e ∨ b = it := by simpa using hb
    rcases this with rfl | rfl
    · exact ⟨_, he, fun v q => nomatch q⟩
    · exact ⟨o, ho, fun v q => by rw [hd] at q; cases q⟩
  keep := fun i h h' ⟨⟨old, he⟩, hi, hne⟩ k => ⟨⟨old, k e (by simp) _ he⟩, hi.at fun o q => k it (by simp) o q, hne⟩
  item := by
    rintro X rfl rfl rfl hc i pins s σ H E I hf ⟨⟨old, he⟩, hit, hne⟩ ⟨xs, x, hq, hx⟩
    obtain ⟨its, rv, p, hz⟩ := I.tuple hq
    obtain ⟨u, hu, ru⟩ := rv.get hx
    have hel : e < s.heap.objs.size := Heap.lt_size he
    have hil : it < s.heap.objs.size := by obtain ⟨_, q, _⟩ := hit; exact Heap.lt_size q
    have D := Draws.tuple (prog := X.prog) (w := X.w) (A := X.A.in1) (I.ok.hd hc) it a hai its.toArray
    refine wpAny_pyNext_enum_itemD D he ⟨hit, p⟩ (by have := (List.getElem?_eq_some_iff.mp hu).1; simpa using this) hne (by simp [hne, Ne.symm hae]) fun x' h' tk hP ho hst hT hsz hk => ?_
    have ex : x' = u := by
      have : its[i]? = some x' := by simpa using hP
      rw [hu] at this; exact (Option.some.inj this).symm
    subst ex
    refine ⟨_, rfl, wpAny_letOwnedTupleGo_enum (s := { s with heap := h', toks := tk + 1 }) ho fun h'' he' sb => ?_⟩
    have hT2 : h''.get? s.heap.objs.size = some { cls := .type "tuple", data := .seq #[.int i tk, x'] } := (sb.2 _ (Nat.ne_of_gt hel)).trans hT
    have pair : ObjOk X.prog X.w (upd H s.heap.objs.size (.tup [.int (i : Nat), x])) h'' s.heap.objs.size (.tup [.int (i : Nat), x]) :=
      ⟨by show 2 ≤ sizeLine; decide, [.int i tk, x'], .cons ⟨_, rfl⟩ (.cons ru .nil), ⟨_, hT2, rfl, _, rfl⟩⟩
    have nb : ∀ b : Addr, b ∉ [e, it] → b ≠ e ∧ b ≠ it := fun b hb => ⟨fun z => hb (by simp [z]), fun z => hb (by simp [z])⟩
    have I1 : Inv X pins σ (upd H s.heap.objs.size (.tup [.int (i : Nat), x])) { s with heap := h'', toks := tk + 1 } :=
      I.turnedNew (ch := [e, it]) (fun b ob hb q => (sb.2 b (nb b hb).1).trans (hk b ob (nb b hb).1 (nb b hb).2 q)) hf (Nat.le_refl _) pair
    refine ⟨.ref s.heap.objs.size, _, I1, rfl, ⟨_, x, rfl, I.hok.fresh (Nat.le_refl _), rfl, fun ys hy => by rw [I.tuple_inj hy hq]; exact hx⟩, ⟨⟨x', ?_⟩, hst.1.at fun o q => (sb.2 it (Ne.symm hne)).trans q, hne⟩, fun b hb => ?_⟩
    · rw [show ((i + 1 : Nat) : Int) = (i : Int) + 1 by omega]; exact he'
    · have hb' : b ≠ s.heap.objs.size := by
        have : b = e ∨ b = it := by simpa using hb
        rcases this with rfl | rfl
        · exact Nat.ne_of_lt hel
        · exact Nat.ne_of_lt hil
      rw [upd_ne hb']
      exact (hf b hb).1
  done := by
    rintro X rfl rfl rfl hc i pins s σ H E I hf ⟨⟨old, he⟩, hit, hne⟩ ⟨xs, hq, hx⟩
    obtain ⟨its, rv, p, hz⟩ := I.tuple hq
    obtain ⟨f0, f1, f2, f3, f4, f5⟩ := hf it (by simp)
    have hl := rv.length
    exact next_enumT (I.ok.hd hc) he hit p (by simp; omega) fun h' eb => ⟨rfl, I.turned (t' := s.toks) (fun b o hb q => eb b o hb q) f0 f1 f3 f4 f5⟩
  self := fun A i s Q E ⟨⟨_, he⟩, _⟩ h => wpAny_pyIter_enum he h
def iEnumB (K : PySem.W.Frag) (ta : TA) : TI := fun σ H R => ta σ H fun vs H1 => ∃ a, vs = [.ref a] ∧ ((∃ xs, SqL K H1 a xs ∧ R (Ite K a) H1) ∨ ∃ xs, SqT K H1 a xs ∧ R (IteT K a) H1)
theorem pi_enumB {X : Cx} {e : Expr} {ta : TA} {p pos tpos : Pos} {elts : List Expr} {kk : Nat} (hg : Gl X "enumerate") (hm : X.mg "enumerate" = none) (ha : PA X [e] ta) (hs : starEach [e] X.env = [(false, eval e X.env)] := by rfl) :
    PI X (.Tuple elts kk tpos) (.Call (.Name "enumerate" p) [e] [] pos) (iEnumB X.K ta) := by
  refine ⟨fun pins s σ H R I h => Call_ (ld_blt I hg hm boot_enumerate (PyProof.Rows.callWith_type1 (thn (ha.run pos pins s σ H _ I h) fun us s1 ⟨vs, H1, I1, r1, q1⟩ => ?_) hs rfl))⟩
  obtain ⟨a, rfl, q⟩ := q1
  cases r1 with
  | cons r rr =>
    cases rr
    cases r
    have two : ∀ {b : Addr}, b ∈ [s1.heap.objs.size + 1, s1.heap.objs.size] → s1.heap.objs.size ≤ b := fun {b} hb => by
      have : b = s1.heap.objs.size + 1 ∨ b = s1.heap.objs.size := by simpa using hb
      rcases this with rfl | rfl
      · exact Nat.le_succ _
      · exact Nat.le_refl _
    rcases q with ⟨xs, hq, q⟩ | ⟨xs, hq, q⟩
    · obtain ⟨its, rv, p', hz⟩ := I1.list hq
      refine call_enumerate_list p'.isList fun h' he hit hsz hk => wpAny_pyIter_enum he ?_
      have I2 : Inv X pins σ H1 { s1 with heap := h' } := I1.kept (t' := s1.toks) hk
      exact ⟨s1.heap.objs.size + 1, [s1.heap.objs.size + 1, s1.heap.objs.size], _, _, H1, rfl, I2, turn_enum a (s1.heap.objs.size + 1) s1.heap.objs.size, ⟨⟨.none, he⟩, hit, Nat.succ_ne_self _⟩, fun b hb => I1.fpOk (two hb) (I1.hok.fresh (two hb)), q⟩
    · obtain ⟨its, rv, p', hz⟩ := I1.tuple hq
      have hal : a < s1.heap.objs.size := by obtain ⟨_, z, _⟩ := p'; exact Heap.lt_size z
      refine callType_new F.called_enumerate (by decide) (F.typeCall_enumerate_1 _) (F.newCall_enumerate_1 _) (fun obj => F.args_object_init_2 obj _) F.entry_enumerate_new (meets_enumT _ _ _ (begins_tuple a its.toArray)) ⟨p', ?_⟩
      have hz1 : (s1.heap.push { cls := .type "tuple_iterator", data := .fields #[.ref a, .int 0 0] }).objs.size = s1.heap.objs.size + 1 := Heap.size_push ..
      show _ ∧ _
      rw [hz1]
      have he : IsEnum ((s1.heap.push { cls := .type "tuple_iterator", data := .fields #[.ref a, .int 0 0] }).push { cls := .type "enumerate", data := .fields #[.none, .bool false, .ref s1.heap.objs.size, rawInt 0, .none, .none] }) (s1.heap.objs.size + 1) s1.heap.objs.size 0 .none := by
        have := Heap.get?_push_size (s1.heap.push { cls := .type "tuple_iterator", data := .fields #[.ref a, .int 0 0] }) (o := { cls := .type "enumerate", data := .fields #[.none, .bool false, .ref s1.heap.objs.size, rawInt 0, .none, .none] }) rfl
        rw [hz1] at this
        exact this
      refine ⟨⟨_, he, rfl⟩, wpAny_pyIter_enum he ?_⟩
      have I2 := I1.kept (t' := s1.toks) (h' := (s1.heap.push { cls := .type "tuple_iterator", data := .fields #[.ref a, .int 0 0] }).push { cls := .type "enumerate", data := .fields #[.none, .bool false, .ref s1.heap.objs.size, rawInt 0, .none, .none] }) fun b o x => Heap.get?_push_of_some _ (Heap.get?_push_of_some _ x)
      exact ⟨s1.heap.objs.size + 1, [s1.heap.objs.size + 1, s1.heap.objs.size], _, _, H1, rfl, I2, turn_enumT a (s1.heap.objs.size + 1) s1.heap.objs.size (Nat.ne_of_lt hal) (Nat.ne_of_lt (Nat.lt_succ_of_lt hal)), ⟨⟨.none, he⟩, ⟨_, Heap.get?_push_of_some _ (Heap.get?_push_size _ rfl), rfl, rfl⟩, Nat.succ_ne_self _⟩, fun b hb => I1.fpOk (two hb) (I1.hok.fresh (two hb)), q⟩
section
variable {X : Cx} {R : Fr} {e : Expr} {fs : PTA} {p pos tpos : Pos}
def qiEnumB (fs : PTA) : PTI := fun Γ O Q => fs Γ O fun dvs O1 => match dvs with
  | [x] => match rd O1 x with
    | some (.list xs) => Q ⟨enumD 0 xs, okOf O1 x (.list xs)⟩ O1
    | some (.tuple xs) => Q ⟨enumD 0 xs, okOf O1 x (.tuple xs)⟩ O1
    | _ => False
  | _ => False
theorem iw_enumB {elts : List Expr} {kk : Nat} (hm : X.mg "enumerate" = none) (ha : AW X R [e] fs) (hg : Gl X "enumerate" := by rfl) (hs : starEach [e] X.env = [(false, eval e X.env)] := by rfl) :
    IW X R (.Tuple elts kk tpos) (.Call (.Name "enumerate" p) [e] [] pos) (qiEnumB fs) := by
  intro S V H σ Γ Q r sl q P k
  refine ⟨_, pi_enumB hg hm wA_pa hs, wA_mono (ha S V H σ Γ _ r sl q) fun vs H1 ⟨S1, V1, dvs, r1, e1, d1, q1⟩ => ?_⟩
  dsimp only at q1
  split at q1
  · rename_i x
    cases d1 with
    | cons dx d2 =>
      cases d2
      split at q1
      · rename_i xs hx
        obtain ⟨a, us, rfl, ha', hda⟩ := rd_lst r1 dx hx
        refine ⟨a, rfl, .inl ⟨us, SqL.of ha', k _ S1 V1 H1 _ r1 e1 (fun i S V H e r ok => ?_) q1⟩⟩
        obtain ⟨a', us', ea, ha2, hda2⟩ := rd_ok e r dx hx ok
        cases ea
        refine ⟨fun d hd => ?_, fun hi => ⟨us', SqL.of ha2, by
          have : (enumD 0 xs).length ≤ i := hi
          rw [enumD_len] at this
          rw [hda2.length]
          exact this⟩⟩
        obtain ⟨z, h1, rfl⟩ := enumD_get hd
        obtain ⟨u, g1, g2⟩ := hda2.get h1
        refine ⟨⟨us', u, SqL.of ha2, g1⟩, fun v H' ⟨T, x', hv, hT, hH, f1⟩ => ?_⟩
        have i1 := f1 us' (SqL.of ha2)
        rw [g1] at i1
        cases i1
        subst hv hH
        obtain ⟨r', e'⟩ := r.new (o := .tup [.int (i : Nat), u]) hT
        refine ⟨_, r', e', .tup (SqT.of upd_same) (.cons (by rw [Nat.zero_add]; exact .int _) (.cons (g2.mono e'.v) .nil)), same_new' hT, fun b hb => ?_⟩
        by_cases q : b = T
        · rw [q]; exact .inr hT
        · rw [upd_ne q] at hb; exact .inl hb
      · rename_i xs hx
        obtain ⟨a, us, rfl, ha', hda⟩ := rd_tup r1 dx hx
        have hb : ∀ {S' : List Cell} {V' H' : Hp}, Ext S1 V1 S' V' → Rep X.K R S' V' H' → SqT X.K H' a us ∧ DqL X.K V' us xs := fun {S' V' H'} e r => ⟨same_seqT r.vh (same_seqT e.v ha'), hda.mono e.v⟩
        refine ⟨a, rfl, .inr ⟨us, same_seqT r1.vh ha', k _ S1 V1 H1 _ r1 e1 (fun i S V H e r ok => ?_) q1⟩⟩
        obtain ⟨ha2, hda2⟩ := hb e r
        refine ⟨fun d hd => ?_, fun hi => ⟨us, ha2, by
          have : (enumD 0 xs).length ≤ i := hi
          rw [enumD_len] at this
          rw [hda2.length]
          exact this⟩⟩
        obtain ⟨z, h1, rfl⟩ := enumD_get hd
        obtain ⟨u, g1, g2⟩ := hda2.get h1
        refine ⟨⟨us, u, ha2, g1⟩, fun v H' ⟨T, x', hv, hT, hH, f1⟩ => ?_⟩
        have i1 := f1 us ha2
        rw [g1] at i1
        cases i1
        subst hv hH
        obtain ⟨r', e'⟩ := r.new (o := .tup [.int (i : Nat), u]) hT
        refine ⟨_, r', e', .tup (SqT.of upd_same) (.cons (by rw [Nat.zero_add]; exact .int _) (.cons (g2.mono e'.v) .nil)), same_new' hT, fun b hb => ?_⟩
        by_cases q : b = T
        · rw [q]; exact .inr hT
        · rw [upd_ne q] at hb; exact .inl hb
      · exact q1.elim
  · exact q1.elim
end
end PW

/-! U24: defs that want to know that no repr is under way (for repr of lists and tuples) -/
namespace PW
open PySem PySem.Spec PyProof.Rows L2
/-- a promise for calls where no repr is under way -/
structure FnG (P : Program) (w : World) (K : PySem.W.Frag) (mg : Str → Option Value) (base : Heap) (k : Nat) (f : Addr) (fd : FuncData) (ps : List Str) (psp : PSp) : Prop where
  len : ∀ vs H Q E, liftSp K psp vs H Q E → vs.length = ps.length
  run : ∀ (A : Around) (outer : List Env) (s : Shared) (H : Hp) (args : Args) (us : List Value) (vs : List L2.V) (Q : VK) (E : XK), A.guards = some [] → Room k A → Env0 P w K mg base A outer s H → BindsTo s fd args (ps.zip us) → Vals vs us → liftSp K psp vs H Q E →
    codeAny (model P w) A (.call (.ref f) args) (CR CX0 outer P w H s Q E) s
section
variable {P : Program} {w : World} {K : PySem.W.Frag} {mg : Str → Option Value} {base : Heap}
theorem FnG.mono {j k : Nat} {f : Addr} {fd : FuncData} {ps : List Str} {psp : PSp} (F : FnG P w K mg base j f fd ps psp) (h : j ≤ k) : FnG P w K mg base k f fd ps psp :=
  ⟨F.len, fun A outer s H args us vs Q E hg hr => F.run A outer s H args us vs Q E hg (hr.mono h)⟩
theorem fnG {x qual : Str} {st : Stmt} {f : Addr} {fd : FuncData} {N ps : List Str} {k : Nat} {psp : PSp} {F : PTS} (Fn : Fun K x qual st f fd) (Sc : FnScope N ps (defScope st))
    (body : ∀ (cdv : Value) (A : Around) (outer : List Env) (s : Shared) (H : Hp) (E : XK), (A.deeper (envOfC qual (defScope st) s.heap.objs.size f cdv)).guards = some [] → Room k (A.deeper (envOfC qual (defScope st) s.heap.objs.size f cdv)) → ∀ R : Fr, BW (cxOf CX0 P w K mg base N qual (defScope st) f cdv A outer s H E).nox R (defBody st) F)
    (h : ∀ dvs O PQ, psp dvs O PQ → dvs.length = ps.length ∧ F { nx := fun _ O' => RetN O.length PQ (.d .none) O', rt := RetN O.length PQ } (startG N dvs) O) : FnG P w K mg base (k + 1) f fd ps psp := by
  have len : ∀ vs H Q E, liftSp K psp vs H Q E → vs.length = ps.length := fun vs H Q E ⟨S, V, dvs, PQ, r, d, q, _⟩ => by rw [dvs_len d]; exact (h dvs _ PQ q).1
  refine ⟨len, fun A outer s H args us vs Q E hg hr e0 hb rv q => ?_⟩
  have hl := len _ _ _ _ q
  obtain ⟨oc, od, kV, doc, pm, an, cdv, ct, osl, rfl, lk, hcd⟩ := Fn.ex
  have old : ∀ b o, base.get? b = some o → s.heap.get? b = some o := fun b o e => (e0.bs b o e).1
  have hk : K.In s.heap := e0.mod.kin.keeps old
  refine codeAny_call_function hr.depth (hk _ _ lk) rfl Sc.co Sc.gen rfl (PySem.W.codeRec_of hk hcd) (hb _ _ _ _ (wpAny_newFunctionEnv_cells Sc.kind (fun y hy => ?_) fun env he s1 x => ?_))
  · rcases Sc.par y.1 (List.of_mem_zip (a := y.1) (b := y.2) hy).1 with q | q
    · exact .inl q
    · exact .inr ⟨q, PySem.W.cellsFrom_some _ _ _ (.inl q)⟩
  · subst he
    refine ⟨(e0.mod.nolimit.keeps old).keeps x.toInCall.keep, codeAny_func ?_⟩
    obtain ⟨S, V, dvs, PQ, r, d, q, k⟩ := q
    have hq := (h dvs _ PQ q).2
    rw [show (obs S).length = S.length from List.length_map ..] at hq
    have wb : wB (cxOf CX0 P w K mg base N qual (defScope st) f cdv A outer s H E).nox (defBody st) { nx := fun _ H' => Q .non H', rt := Q } (start N vs) H :=
      body cdv A outer s H E hg (hr.deeper _) (.here S V H) S V H _ _ _ _ r (slots_start d) hq ⟨fun σ' H' ⟨S', V', Γ', r', e', sl', q'⟩ => retn_ok k r' e' (dv := .d .none) .non q', fun v H' ⟨S', V', dv, r', e', d', q'⟩ => retn_ok k r' e' d' q', fun σ' H' ⟨S', V', Γ', r', e', sl', q'⟩ => q'.elim, fun σ' H' ⟨S', V', Γ', r', e', sl', q'⟩ => q'.elim⟩
    have I : Inv (cxOf CX0 P w K mg base N qual (defScope st) f cdv A outer s H E) [] (start N vs) H s1 := inv_start Sc hr.hd e0 hl rv x
    refine wpAny_mono (wB_pss.nox.run [] s1 (start N vs) H _ I wb) (fun fl s' hs => ?_) fun e s' hs => hs
    cases fl with
    | ret u =>
      obtain ⟨v, σ', H', J, rv, q⟩ := hs
      exact ⟨v, H', J.os, J.bare, J.base, J.hok, rv, q⟩
    | next =>
      obtain ⟨σ', H', J, q⟩ := hs
      exact ⟨.non, H', J.os, J.bare, J.base, J.hok, rfl, q⟩
    | brk => exact hs.choose_spec.choose_spec.2.elim
    | cont => exact hs.choose_spec.choose_spec.2.elim
end
section
variable {X : Cx} {R : Fr} {e o : Expr} {es : List Expr} {fs : PTA} {f : PTE} {pos p : Pos}
/-- the call of such a def, where no repr is under way -/
theorem ew_callG {k : Nat} {fa : Addr} {fd : FuncData} {ps : List Str} {psp : PSp} {x : Str} (hgd : X.A.guards = some []) (F : FnG X.prog X.w X.K X.mg X.base k fa fd ps psp) (hr : Room k X.A) (hm : X.mg x = some (.ref fa)) (hk : PySem.W.keepIn X.K (.ref fa) = true) (hb : Binds X.K fd ps [])
    (ha : AW X R (e :: es) fs) (hg : Gl X x := by rfl) (hdb : (x == ("__debug__" : Str)) = false := by decide) (he : starEach (e :: es) X.env = (false, eval e X.env) :: starEach es X.env := by rfl) (hpl : (backTo pos (starEach es X.env)).any (·.1) = false := by rfl) :
    EW X R (.Call (.Name x p) (e :: es) [] pos) (qCall psp fs) := by
  intro S V H σ Γ Q r sl q pins s I
  refine wpAny_Call_Name_kw (ld_glob I hg hm ?_ hdb)
  refine PySem.W.callWith_K (h₀ := X.base) I.ok.mod.kin hk (thn (wA_mono (ha S V H σ Γ _ r sl q) (fun vs H1 h => h) pos pins s I) fun us s1 ⟨vs, H1, I1, rv, S1, V1, dvs, r1, e1, d1, q1⟩ => ⟨I1.kIn, ?_⟩) he hpl
  have h : liftSp X.K psp vs H1 (PostE X.K R S1 V1 Q) E0 := app_ok (E := E0) r1 d1 q1
  have hl : us.length = ps.length := by rw [← rv.length]; exact F.len _ _ _ _ h
  refine wpAny_call (codeAny_mono (F.run X.A X.stack s1 H1 ⟨us, []⟩ us vs _ E0 hgd hr I1.env0 (by have := hb s1 us I1.kIn (by rw [List.append_nil]; exact hl); rw [List.append_nil] at this; exact this) rv h) fun rs s' hq => ?_)
  cases rs with
  | error e => exact pass0 pins σ H1 s1 e s' I1 hq
  | ok fl =>
    cases fl with
    | ret u =>
      obtain ⟨v, H', I', rv', q'⟩ := I1.after hq
      exact ⟨v, H', I', rv', PostE.ext e1 q'⟩
    | next => exact False.elim hq
    | brk => exact False.elim hq
    | cont => exact False.elim hq
/-- repr(e) of a list or a tuple -/
def isDisp : PyData → Bool
  | .list _ | .tuple _ => true
  | _ => false
def qRepr (f : PTE) : PTE := fun Γ O Q => f Γ O fun dv O1 => match rd O1 dv with
  | some d => (isDisp d = true ∧ d.leavesShort 13 = true ∧ d.bulk ≤ 1048576 ∧ d.depth ≤ 60 ∧ d.showable = true ∧ d.hasDict = false) ∧ Q (.d (.str d.shown)) O1
  | none => False
theorem ew_repr (hgd : X.A.guards = some []) (hu : X.A.units + 65 < cLine) (hm : X.mg "repr" = none) (ha : EW X R e f) (hg : Gl X "repr" := by rfl) (he : starEach [e] X.env = (false, eval e X.env) :: starEach [] X.env := by rfl) (hpl : (backTo pos (starEach [] X.env)).any (·.1) = false := by rfl) :
    EW X R (.Call (.Name "repr" p) [e] [] pos) (qRepr f) := by
  intro S V H σ Γ Q r sl q
  have hc : CallR X (.builtin "repr") fun xs H1 Q1 => ∃ v d, xs = [v] ∧ Dp X.K H1 v d ∧ (isDisp d = true ∧ d.leavesShort 13 = true ∧ d.bulk ≤ 1048576 ∧ d.depth ≤ 60 ∧ d.showable = true ∧ d.hasDict = false) ∧ Q1 (.str d.shown) H1 := by
    intro pins s σ H1 xs us Q1 I rx ⟨v, d, ex, hd, ⟨h1, h2, h3, h4, h5, h6⟩, q1⟩
    subst ex
    cases rx with
    | cons r1 r2 =>
      cases r2
      rename_i u
      obtain ⟨as, hr⟩ := Dp.reads I d v u hd r1
      have : ∃ a, u = Value.ref a := by
        cases hd <;> first | exact ⟨_, r1⟩ | cases h1
      obtain ⟨a, rfl⟩ := this
      exact repr_of_reads' hr h5 (fun z => by rw [h6] at z; cases z) hgd (by omega) (fun _ _ e => e) (fun h' u tk hk => ⟨.str d.shown, H1, I.kept (t' := tk) hk, ⟨_, rfl⟩, q1⟩) (PyData.shown_fits_bulk (B := 13) (by decide) (by decide) h2 h3)
  refine wE_of (pe_callB hc hg hm (by decide +kernel) (pa_cons wE_pe pa_nil he) (by decide) (by decide) he hpl) (wE_mono (ha S V H σ Γ _ r sl q) fun v H1 ⟨S1, V1, dv, r1, e1, d1, q1⟩ => ?_)
  dsimp only at q1
  split at q1
  · rename_i d hd
    exact ⟨v, d, rfl, (rd_dq r1 d1 hd).dp, q1.1, PostE.ext e1 (.hd r1 (.str _) q1.2)⟩
  · exact q1.elim
end
/-! ### the law -/
theorem law_callG {P : Program} {w : World} {K : PySem.W.Frag} {mg mb : Str → Option Value} {k : Nat} {fa a : Addr} {fd : FuncData} {x : Str} {sh : Shared} {vs : List Value} {ns : List Int}
    (kin : K.In sh.heap)
    (nsm : sh.heap.Ns mainGlobals mg) (hb : sh.heap.Ns builtinsNs mb) (bnat : ∀ x : Str, x ≠ "__name__" → mb x = bootBuiltins x) (nlim : sh.heap.NoLimit) (hg : sh.gens = #[])
    (ha : sh.heap.get? a = some { cls := .type "list", data := .seq vs.toArray }) (hi : IntsAre vs ns) (hl : ns.length ≤ sizeLine) (hl2 : ns.length ≤ 100) (hr : Room k callerA)
    (F : ∀ base : Heap, K.In base → base.Ns mainGlobals mg → FnG P w K mg base k fa fd [x] (pspLaw K)) (bnd : ∀ (s : Shared) (u : Value), BindsTo s fd ⟨[u], []⟩ [(x, u)]) :
    codeAny (model P w) callerA (.call (.ref fa) ⟨[.ref a], []⟩) (fun r t => r = .ok (.ret (.bool true)) ∧ OldK sh.heap t.heap ∧ t.os = sh.os ∧ AllBare t.gens) sh := by
  have rv := vals_ints hi
  have lnv := hi.length
  -- the script is the one thing that is looked at, where it is no object of the module
  let L : HO := .frz { cls := .type "list", data := .seq vs.toArray } (.lst (ns.map V.int))
  let H : Hp := fun b => if b = a ∧ K.lookup a = none then some L else none
  have hH : ∀ {b : Addr} {u : HO}, H b = some u → b = a ∧ K.lookup a = none ∧ u = L := fun {b u} e => by
    by_cases hc : b = a ∧ K.lookup a = none
    · have := (if_pos hc).symm.trans e
      exact ⟨hc.1, hc.2, (Option.some.inj this).symm⟩
    · have := (if_neg hc).symm.trans e
      cases this
  have hok : HOk P w H sh.heap := fun b u e => by
    obtain ⟨rfl, _, rfl⟩ := hH e
    exact ⟨ha, by rw [List.length_map]; exact hl, vs, _, rv, ha⟩
  have hS : SqL K H a (ns.map V.int) := by
    cases q : K.lookup a with
    | none => exact .inl (.inr ⟨_, if_pos ⟨rfl, q⟩⟩)
    | some o =>
      have e := kin a o q
      rw [ha] at e
      cases e
      exact .inr ⟨_, vs.toArray, _, q, rfl, rfl, rfl, by rw [List.size_toArray, lnv]; exact hl, by simpa using rv⟩
  have hid : ∀ {b : Addr} {o : Obj}, sh.heap.get? b = some o → H b = none → (hidT sh.heap H).get? b = some o := fun e n => hidT_get e n
  have nodict : ∀ {b : Addr} {o : Obj} {es : Array DictEntry} {ep : Nat}, sh.heap.get? b = some o → o.data = .dict es ep → H b = none := fun {b o es ep} e d => by
    cases q : H b with
    | none => rfl
    | some u =>
      obtain ⟨rfl, _, _⟩ := hH q
      rw [ha] at e
      cases e
      cases (show Data.seq vs.toArray _ = Data.dict es ep from d)
  have nsOf : ∀ {b : Addr} {m : Str → Option Value}, sh.heap.Ns b m → (hidT sh.heap H).Ns b m := fun {b m} ⟨o, es, ep, e, d, z⟩ => ⟨o, es, ep, hid e (nodict e d), d, z⟩
  have inOf : K.In (hidT sh.heap H) := fun b o e => hid (kin b o e) (by
    cases q : H b with
    | none => rfl
    | some u =>
      obtain ⟨rfl, z, _⟩ := hH q
      rw [z] at e; cases e)
  have md : Mod K mg (hidT sh.heap H) := ⟨inOf, nsOf nsm, ⟨mb, nsOf hb, bnat⟩, let ⟨mc, h1, h2⟩ := nlim; ⟨mc, nsOf h1, h2⟩⟩
  have env : Env0 P w K mg (hidT sh.heap H) callerA [] sh H := ⟨rfl, md, fun b o e => of_hidT e, Nat.le_of_eq (hidT_size _ _), trivial, fun b hb => absurd (show b ∈ ([] : List Addr) from hb) (by simp), hok, .of_eq hg⟩
  have q : liftSp K (pspLaw K) [.ref a] H (fun v _ => v = .bl true) fun _ _ _ => False :=
    law_lift (K := K) [.ref a] H (fun v _ => v = .bl true) (fun _ _ _ => False) ⟨a, ns, rfl, hS, hl2, fun _ => rfl⟩
  refine codeAny_mono ((F _ inOf (nsOf nsm)).run callerA [] sh H ⟨[.ref a], []⟩ [.ref a] [.ref a] _ _ rfl hr env (bnd sh (.ref a)) (.cons rfl .nil) q) fun r s' h => ?_
  cases r with
  | error e => exact False.elim h
  | ok fl =>
    cases fl with
    | next => exact False.elim h
    | brk => exact False.elim h
    | cont => exact False.elim h
    | ret u =>
      obtain ⟨v, H', os, bare, un, hok', r', rfl⟩ := h
      have hu : u = Value.bool true := r'
      subst hu
      refine ⟨rfl, OldK.of_keep (fun b o e => ?_), os, bare⟩
      cases q : H b with
      | none => exact un.keep b o e q (fun z => by cases (show b ∈ ([] : List Addr) from z)) (by simp)
      | some u =>
        obtain ⟨rfl, _, rfl⟩ := hH q
        obtain ⟨e2, _⟩ := hok' b _ (un.frzs b _ _ q)
        rw [ha] at e
        cases e
        exact e2
theorem walkLG {l : PySem.W.OpenLaw} {q : Program} {loose : List Str} {XP : (Str → Option Value) → Heap → Prop} {YP : World → Heap → Prop} {d : DefRec} {K : Params → PySem.W.Frag} (k : Nat) (hk : Room k callerA) (hn : l.most = some 63) (hdf : d.params.defaults = [])
    (hY : ∀ (w : World) (h : Heap), YP w h → (K w.params).In h)
    (F : ∀ (w : World) (mg : Str → Option Value) (fa : Addr) (h : Heap), (K w.params).In h → h.Ns mainGlobals mg → mg d.name = some (.ref fa) →
      ∃ fd : FuncData, (∀ (s : Shared) (u : Value), BindsTo s fd ⟨[u], []⟩ [("_law_script", u)]) ∧ ∀ base : Heap, (K w.params).In base → base.Ns mainGlobals mg → FnG l.prog w (K w.params) mg base k fa fd ["_law_script"] (pspLaw (K w.params))) :
    PySem.W.WalkO q loose XP YP l.row.toRowW d [] (fun f vs => PySem.call f vs) := by
  refine Att.attach_call hn hdf fun w s₀ sh mg mb fa o pm cd doc a vs ns G Y ho hd hcd hmg hscr hsi hlen hg => ?_
  have kin := hY w _ Y
  obtain ⟨fd, hb, hF⟩ := F w mg fa _ kin G.T.g hmg
  exact law_callG kin G.T.g G.T.b G.T.builtins G.T.nolimit hg hscr hsi (Nat.le_trans hlen (by decide)) (Nat.le_trans hlen (by decide)) hk hF hb
end PW

namespace PW
open PySem L2
def top (i : Nat) : Stmt := PySem.Challenge.pw_heldnotes_k60_clamps_joined.main.body.getD i (.Pass ⟨0, 0, 0, 0⟩)
abbrev sPHelderror : Stmt := top 1
abbrev sPBadnumber : Stmt := top 2
abbrev sPBadclamp : Stmt := top 3
abbrev sPIsList : Stmt := top 5
abbrev sPIsInt : Stmt := top 6
abbrev sPIsEnd : Stmt := top 9
abbrev sPIsClamp : Stmt := top 10
abbrev sPCheckClamp : Stmt := top 11
abbrev sPCheckNumber : Stmt := top 12
abbrev sPKeptWithin : Stmt := top 13
abbrev sPClamped : Stmt := top 14
abbrev sPInForm : Stmt := top 15
abbrev sPBoth : Stmt := top 16
abbrev sPAllJoined : Stmt := top 17
abbrev sPJoined : Stmt := top 18
abbrev sPShown : Stmt := top 19
abbrev sLSource : Stmt := top 21
abbrev sLDraw : Stmt := top 22
abbrev sLPick : Stmt := top 23
abbrev sLSame : Stmt := top 24
abbrev sLClamp : Stmt := top 25
abbrev sLClamped : Stmt := top 26
abbrev sLIsForm : Stmt := top 27
abbrev sPLaw : Stmt := top 28
end PW

namespace PW
open PySem PySem.Spec PyProof.Rows L2
section
variable {P : Program} {w : World} {K : PySem.W.Frag} {mg : Str → Option Value} {base : Heap}
theorem scLDraw : FnScope ["_law_draws", "_law_many", "_law_found"] ["_law_draws", "_law_many"] (defScope sLDraw) := ⟨rfl, rfl, rfl, by decide +kernel, rfl, by decide +kernel, by decide +kernel⟩
theorem drawH {f : Addr} {fd : FuncData} (F : Fun K "_law_draw" "_law_draw" sLDraw f fd) (T : Txt K mg) : FnOk P w K mg base CX0 1 f fd ["_law_draws", "_law_many"] spDrawH := by
  refine F.ok scLDraw (fun vs H Q E h => ?_) (fun cdv A outer s H vs Q E hr h => ?_)
  · obtain ⟨d, m, rfl, _⟩ := h
    rfl
  · obtain ⟨d, m, rfl, ⟨a, b, c, hd⟩, h0, h1, k⟩ := h
    refine ⟨_, pss_cons (ps_if (pt_cmpR op_gt (pe_ix ix_list (pv 0) pe_int (fun _ _ => rfl)) pe_int (nomark _))
        (pss_cons (ps_set (i := 2) scLDraw.nd rfl (Or.inl rfl) (pe_op op_mod (pe_callTy call_int1 (by rfl) T.int (by decide +kernel) (pa_cons (pe_ix ix_list (pv 0) pe_int (fun _ _ => rfl)) pa_nil)) (pv 1)))
        (pss_cons (ps_asg (pe_op op_fdiv (pe_ix ix_list (pv 0) pe_int (fun _ _ => rfl)) (pv 1)) (pg_sub (pv 0) pe_int set_list))
        (pss_one (ps_ret (pv 2))))) pss_nil)
      (pss_cons (ps_asg (pe_op op_add (pe_ix ix_list (pv 0) pe_int (fun _ _ => rfl)) pe_int) (pg_sub (pv 0) pe_int set_list))
      (pss_cons (ps_asg (pe_op op_mod (pe_callTy call_int1 (by rfl) T.int (by decide +kernel) (pa_cons (pe_op op_add (pe_op op_add (pe_op op_mul (pe_ix ix_list (pv 0) pe_int (fun _ _ => rfl)) pe_int) (pe_op op_mul (pe_ix ix_list (pv 0) pe_int (fun _ _ => rfl)) pe_int)) pe_int) pa_nil)) pe_int) (pg_sub (pv 0) pe_int set_list))
      (pss_one (ps_ret (pe_op op_mod (pe_callTy call_int1 (by rfl) T.int (by decide +kernel) (pa_cons (pe_op op_add (pe_op op_fdiv (pe_ix ix_list (pv 0) pe_int (fun _ _ => rfl)) pe_int) (pe_ix ix_list (pv 0) pe_int (fun _ _ => rfl))) pa_nil)) (pv 1)))))), ?_⟩
    refine ⟨_, rfl, d, _, 0, _, rfl, rfl, SqL.of hd, rfl, _, _, rfl, rfl, _, rfl, ?_⟩
    refine ite2 (fun _ => ?_) (fun _ => ?_)
    · refine ⟨_, rfl, d, _, 0, _, rfl, rfl, SqL.of hd, rfl, .inl ⟨_, rfl, ?_⟩⟩
      refine ⟨_, rfl, _, _, rfl, rfl, h0, ?_⟩
      refine ⟨_, rfl, d, _, 0, _, rfl, rfl, SqL.of hd, rfl, _, rfl, _, _, rfl, rfl, ⟨h0, by omega⟩, ?_⟩
      refine ⟨_, rfl, d, _, 0, 0, rfl, rfl, hd, rfl, ?_⟩
      refine ⟨_, rfl, ?_⟩
      exact k _ _ (Int.emod_nonneg _ (by omega)) (Int.emod_lt_of_pos _ h0) ⟨_, _, _, upd_same⟩ But.upd
    · refine ⟨_, rfl, d, _, 2, _, rfl, rfl, SqL.of hd, rfl, _, _, rfl, rfl, ?_⟩
      refine ⟨_, rfl, d, _, 2, 2, rfl, rfl, hd, rfl, ?_⟩
      refine ⟨_, rfl, d, _, 1, _, rfl, rfl, SqL.of upd_same, rfl, _, _, rfl, rfl, .inr (by decide), ?_⟩
      refine ⟨_, rfl, d, _, 2, _, rfl, rfl, SqL.of upd_same, rfl, _, _, rfl, rfl, .inr (by decide), ?_⟩
      refine ⟨_, _, rfl, rfl, _, _, rfl, rfl, .inl ⟨_, rfl, ?_⟩⟩
      refine ⟨_, _, rfl, rfl, by show (0 : Int) < 2147483647; decide, ?_⟩
      refine ⟨_, rfl, d, _, 1, 1, rfl, rfl, upd_same, rfl, ?_⟩
      refine ⟨_, rfl, d, _, 1, _, rfl, rfl, SqL.of upd_same, rfl, _, _, rfl, rfl, ⟨by decide, by decide⟩, ?_⟩
      refine ⟨_, rfl, d, _, 1, _, rfl, rfl, SqL.of upd_same, rfl, _, _, rfl, rfl, .inl ⟨_, rfl, ?_⟩⟩
      refine ⟨_, rfl, _, _, rfl, rfl, h0, ?_⟩
      exact k _ _ (Int.emod_nonneg _ (by omega)) (Int.emod_lt_of_pos _ h0) ⟨_, _, _, upd_same⟩ (But.upd.trans But.upd)
theorem okLDraw {f : Addr} {fd : FuncData} (D : Def K mg "_law_draw" sLDraw ["_law_draws", "_law_many"] f fd) (T : Txt K mg) : FnOk P w K mg base CX0 1 f fd ["_law_draws", "_law_many"] (liftSp K pspDraw) := (drawH D.F T).imp draw_lift
theorem scLSource : FnScope ["_law_script", "_law_place", "_law_raw"] ["_law_script", "_law_place"] (defScope sLSource) := ⟨rfl, rfl, rfl, by decide +kernel, rfl, by decide +kernel, by decide +kernel⟩
theorem sourceH {f : Addr} {fd : FuncData} (F : Fun K "_law_source" "_law_source" sLSource f fd) (T : Txt K mg) : FnOk P w K mg base CX0 1 f fd ["_law_script", "_law_place"] (spSourceH K) := by
  refine F.ok scLSource (fun vs H Q E h => ?_) (fun cdv A outer s H vs Q E hr h => ?_)
  · obtain ⟨a, ns, k, rfl, _⟩ := h
    rfl
  · obtain ⟨a, ns, i, rfl, hS, h0, h1, k⟩ := h
    refine ⟨_, pss_cons (ps_set (i := 2) scLSource.nd rfl (Or.inl rfl) (pe_ifExp (pt_cmpR op_lt (pv 1) (pe_callB call_len_seq (by rfl) T.len PySem.boot_len (pa_cons (pv 0) pa_nil)) (nomark _)) (pe_ix ix_list (pv 0) (pv 1) (fun _ _ => rfl))
        (pe_op op_add (pe_op op_mul pe_int (pv 1)) pe_int)))
      (pss_one (ps_ret (pe_lst (pa_cons (pe_ifExp (pt_cmpR op_ge (pv 2) (pe_op op_pow pe_int pe_int) (nomark _)) (pv 2) pe_int)
        (pa_cons (pe_op op_mod (pe_callTy call_int1 (by rfl) T.int (by decide +kernel) (pa_cons (pv 2) pa_nil)) pe_int) (pa_cons pe_int pa_nil)))))), ?_⟩
    have rest : ∀ z : Int, tRet (tLst (tCons (tIf (tTest (tOp (rI0 fun i j => .bl (decide (j ≤ i))) (tVar 2) (tOp (rI CPow fun i j => .int (i ^ j.toNat)) (tC (.int 10)) (tC (.int 18))))) (tVar 2) (tC (.int 0)))
        (tCons (tOp (rI (fun _ j => 0 < j) fun i j => .int (i % j)) (tCB (fun xs H Q => (∃ i, xs = [.int i] ∧ Q (.int i) H) ∨ ∃ k, xs = [.bl k] ∧ Q (.int (if k then 1 else 0)) H) (tCons (tVar 2) tNil)) (tC (.int 2147483647))) (tCons (tC (.int 0)) tNil))))
        { nx := fun _ H' => Q .non H', rt := Q } [some (.ref a), some (.int i), some (.int z)] H := by
      intro z
      refine ⟨_, rfl, _, _, rfl, rfl, ⟨by decide, by decide, by decide⟩, _, _, rfl, rfl, _, rfl, ?_⟩
      refine ite2 (fun _ => ?_) (fun _ => ?_)
      · refine ⟨_, rfl, _, rfl, .inl ⟨_, rfl, _, _, rfl, rfl, (by show (0 : Int) < 2147483647; decide), ?_⟩⟩
        refine ⟨by show 3 ≤ sizeLine; decide, fun p hp => ?_⟩
        exact k p hp _ _ _
      · refine ⟨_, rfl, .inl ⟨_, rfl, _, _, rfl, rfl, (by show (0 : Int) < 2147483647; decide), ?_⟩⟩
        refine ⟨by show 3 ≤ sizeLine; decide, fun p hp => ?_⟩
        exact k p hp _ _ _
    refine ⟨_, rfl, _, rfl, a, _, rfl, .inl hS, _, _, rfl, rfl, _, rfl, ?_⟩
    refine ite2 (fun hlt => ?_) (fun _ => ?_)
    · have hlt' := of_decide_eq_true hlt
      rw [List.length_map] at hlt'
      obtain ⟨j, rfl⟩ : ∃ j : Nat, i = (j : Int) := ⟨i.toNat, (Int.toNat_of_nonneg h0).symm⟩
      have hj : j < ns.length := by omega
      refine ⟨_, rfl, _, rfl, a, _, _, _, rfl, rfl, hS, atI_nat (v := L2.V.int ns[j]) (by rw [List.getElem?_map, List.getElem?_eq_getElem hj]; rfl), ?_⟩
      exact rest _
    · refine ⟨_, rfl, _, _, rfl, rfl, .inl (by decide), _, _, rfl, rfl, ?_⟩
      exact rest _
theorem okLSource {f : Addr} {fd : FuncData} (D : Def K mg "_law_source" sLSource ["_law_script", "_law_place"] f fd) (T : Txt K mg) : FnOk P w K mg base CX0 1 f fd ["_law_script", "_law_place"] (liftSp K (pspSource K)) := (sourceH D.F T).imp source_lift
end
end PW

namespace PW
open PySem PySem.Spec PyProof.Rows L2
section
variable {P : Program} {w : World} {K : PySem.W.Frag} {mg : Str → Option Value} {base : Heap}

def pspAllJoined2 : PSp := fun dvs O Q => ∃ x xs cs, dvs = [.d x] ∧ O = [] ∧ (x = .list xs ∨ x = .tuple xs) ∧ ClsOf xs cs ∧ Q (.d (.tuple (joinC cs).ds)) []
def pspJoined2 : PSp := fun dvs O Q => ∃ x xs cs, dvs = [.d x] ∧ O = [] ∧ (x = .list xs ∨ x = .tuple xs) ∧ ClsOf xs cs ∧ Q (.d (.tuple (joinC cs).ds)) []
abbrev nmLPick : List Str := ["_law_draws", "_law_xs"]
theorem scLPick : FnScope nmLPick ["_law_draws", "_law_xs"] (defScope sLPick) := ⟨rfl, rfl, rfl, by decide +kernel, rfl, by decide +kernel, by decide +kernel⟩
theorem okLPick {f : Addr} {fd : FuncData} (D : Def K mg "_law_pick" sLPick ["_law_draws", "_law_xs"] f fd) (T : Txt K mg)
    {fLDraw : Addr} {fdLDraw : FuncData} (DLDraw : Def K mg "_law_draw" sLDraw ["_law_draws", "_law_many"] fLDraw fdLDraw) (GLDraw : FnOk P w K mg base CX0 1 fLDraw fdLDraw ["_law_draws", "_law_many"] (liftSp K pspDraw)) :
    FnOk P w K mg base CX0 2 f fd ["_law_draws", "_law_xs"] (liftSp K pspPick) := by
  refine fnP D.F scLPick (fun cdv A outer s H E hr R => (bw_one (sw_ret (ew_ix (ew_var 1) (ew_call GLDraw (hr.mono (by decide)) DLDraw.m DLDraw.F.kp DLDraw.b (aw_cons (ew_var 0) (aw_cons (ew_blt b_len T.len PySem.boot_len (aw_cons (ew_var 1) aw_nil)) aw_nil))))))) (fun dvs O PQ q => ?_)
  obtain ⟨ds, rfl, rfl, h0, h1, k⟩ := q
  refine ⟨rfl, ?_⟩
  refine ⟨rfl, (ds.length : Int), rfl, rfl, by omega, by omega, fun r r0 r1 => ?_⟩
  obtain ⟨j, rfl⟩ : ∃ j : Nat, r = (j : Int) := ⟨r.toNat, (Int.toNat_of_nonneg r0).symm⟩
  have hj : j < ds.length := by omega
  have e : atI ds (j : Int) = some ds[j] := atI_nat (List.getElem?_eq_getElem hj)
  show (match atI ds (j : Int) with | some e => RetN 1 PQ (.d e) [.dr] | none => False)
  rw [e]
  exact k _ (List.getElem_mem hj)
abbrev nmPIsList : List Str := ["thing"]
theorem scPIsList : FnScope nmPIsList ["thing"] (defScope sPIsList) := ⟨rfl, rfl, rfl, by decide +kernel, rfl, by decide +kernel, by decide +kernel⟩
theorem okPIsList {f : Addr} {fd : FuncData} (D : Def K mg "is_list" sPIsList ["thing"] f fd) (T : Txt K mg) :
    FnOk P w K mg base CX0 1 f fd ["thing"] (liftSp K pspIsList) := by
  refine fnP D.F scPIsList (fun cdv A outer s H E hr R => (bw_one (sw_ret (ew_isiT (ew_var 0) (tys_cons (T := .list) (tys_cons (T := .tuple) tys_nil T.tuple (by decide +kernel)) T.list (by decide +kernel)) T.isi)))) (fun dvs O PQ q => ?_)
  obtain ⟨x, rfl, rfl, k⟩ := q
  refine ⟨rfl, ?_⟩
  cases x <;> exact k
abbrev nmPIsInt : List Str := ["thing"]
theorem scPIsInt : FnScope nmPIsInt ["thing"] (defScope sPIsInt) := ⟨rfl, rfl, rfl, by decide +kernel, rfl, by decide +kernel, by decide +kernel⟩
theorem okPIsInt {f : Addr} {fd : FuncData} (D : Def K mg "is_int" sPIsInt ["thing"] f fd) (T : Txt K mg) :
    FnOk P w K mg base CX0 1 f fd ["thing"] (liftSp K pspIsInt) := by
  refine fnP D.F scPIsInt (fun cdv A outer s H E hr R => (bw_one (sw_ret (ew_and (ew_isi (T := .int) (ew_var 0) T.isi T.int (by decide +kernel)) (ew_one (ew_not (ew_isi (T := .bool) (ew_var 0) T.isi T.bool (by decide +kernel)))))))) (fun dvs O PQ q => ?_)
  obtain ⟨x, rfl, rfl, k⟩ := q
  refine ⟨rfl, ?_⟩
  cases x <;> exact k
abbrev nmPIsEnd : List Str := ["thing"]
theorem scPIsEnd : FnScope nmPIsEnd ["thing"] (defScope sPIsEnd) := ⟨rfl, rfl, rfl, by decide +kernel, rfl, by decide +kernel, by decide +kernel⟩
theorem okPIsEnd {f : Addr} {fd : FuncData} (D : Def K mg "is_end" sPIsEnd ["thing"] f fd) (T : Txt K mg)
    {fPIsInt : Addr} {fdPIsInt : FuncData} (DPIsInt : Def K mg "is_int" sPIsInt ["thing"] fPIsInt fdPIsInt) (GPIsInt : FnOk P w K mg base CX0 1 fPIsInt fdPIsInt ["thing"] (liftSp K pspIsInt)) :
    FnOk P w K mg base CX0 2 f fd ["thing"] (liftSp K pspIsEnd) := by
  refine fnP D.F scPIsEnd (fun cdv A outer s H E hr R => (bw_one (sw_ret (ew_or (ew_cmp ow_is (ew_var 0) ew_non) (ew_one (ew_call GPIsInt (hr.mono (by decide)) DPIsInt.m DPIsInt.F.kp DPIsInt.b (aw_cons (ew_var 0) aw_nil))))))) (fun dvs O PQ q => ?_)
  obtain ⟨x, rfl, rfl, k⟩ := q
  refine ⟨rfl, ?_⟩
  cases x with
  | none => exact k
  | int i => exact ⟨rfl, _, rfl, rfl, k⟩
  | bool i => exact ⟨rfl, _, rfl, rfl, k⟩
  | str i => exact ⟨rfl, _, rfl, rfl, k⟩
  | list i => exact ⟨rfl, _, rfl, rfl, k⟩
  | tuple i => exact ⟨rfl, _, rfl, rfl, k⟩
  | dict i => exact ⟨rfl, _, rfl, rfl, k⟩
abbrev nmPIsClamp : List Str := ["thing", "low", "step", "high"]
theorem scPIsClamp : FnScope nmPIsClamp ["thing"] (defScope sPIsClamp) := ⟨rfl, rfl, rfl, by decide +kernel, rfl, by decide +kernel, by decide +kernel⟩
theorem okPIsClamp {f : Addr} {fd : FuncData} (D : Def K mg "is_clamp" sPIsClamp ["thing"] f fd) (T : Txt K mg)
    {fPIsEnd : Addr} {fdPIsEnd : FuncData} (DPIsEnd : Def K mg "is_end" sPIsEnd ["thing"] fPIsEnd fdPIsEnd) (GPIsEnd : FnOk P w K mg base CX0 2 fPIsEnd fdPIsEnd ["thing"] (liftSp K pspIsEnd))
    {fPIsInt : Addr} {fdPIsInt : FuncData} (DPIsInt : Def K mg "is_int" sPIsInt ["thing"] fPIsInt fdPIsInt) (GPIsInt : FnOk P w K mg base CX0 1 fPIsInt fdPIsInt ["thing"] (liftSp K pspIsInt))
    {fPIsList : Addr} {fdPIsList : FuncData} (DPIsList : Def K mg "is_list" sPIsList ["thing"] fPIsList fdPIsList) (GPIsList : FnOk P w K mg base CX0 1 fPIsList fdPIsList ["thing"] (liftSp K pspIsList)) :
    FnOk P w K mg base CX0 3 f fd ["thing"] (liftSp K pspIsClamp) := by
  refine fnP D.F scPIsClamp (fun cdv A outer s H E hr R => (bw_cons (sw_if (tw_ww (ww_or (tw_not (tw_tru (ew_call GPIsList (hr.mono (by decide)) DPIsList.m DPIsList.F.kp DPIsList.b (aw_cons (ew_var 0) aw_nil)))) (ww_or1 (tw_cmp (ow_ne (hu65 hr)) (ew_blt b_len T.len PySem.boot_len (aw_cons (ew_var 0) aw_nil)) ew_int)))) (bw_one (sw_ret ew_bl)) bw_nil)
      (bw_cons (sw_asg (ew_var 0) (gw_tup (n := 3) rfl (gsw_cons (gw_name (i := 1) scPIsClamp.nd) (gsw_cons (gw_name (i := 2) scPIsClamp.nd) (gsw_cons (gw_name (i := 3) scPIsClamp.nd) gsw_nil)))))
      (bw_cons (sw_if (tw_ww (ww_or (tw_not (tw_tru (ew_call GPIsEnd (hr.mono (by decide)) DPIsEnd.m DPIsEnd.F.kp DPIsEnd.b (aw_cons (ew_var 1) aw_nil)))) (ww_or (tw_not (tw_tru (ew_call GPIsInt (hr.mono (by decide)) DPIsInt.m DPIsInt.F.kp DPIsInt.b (aw_cons (ew_var 2) aw_nil)))) (ww_or1 (tw_not (tw_tru (ew_call GPIsEnd (hr.mono (by decide)) DPIsEnd.m DPIsEnd.F.kp DPIsEnd.b (aw_cons (ew_var 3) aw_nil)))))))) (bw_one (sw_ret ew_bl)) bw_nil)
      (bw_one (sw_ret (ew_or (ew_cmp ow_is (ew_var 1) ew_non) (ew_or (ew_cmp ow_is (ew_var 3) ew_non) (ew_one (ew_cmp ow_le (ew_var 1) (ew_var 3))))))))))) (fun dvs O PQ q => ?_)
  obtain ⟨x, c, rfl, rfl, ⟨hx, hok⟩, k⟩ := q
  refine ⟨rfl, ?_⟩
  refine ⟨rfl, x, rfl, rfl, ?_⟩
  obtain ⟨lo, s, hi⟩ := c
  rcases hx with rfl | rfl
  all_goals
    cases lo with
    | none => cases hi with
      | none => exact ⟨rfl, ⟨rfl, _, rfl, rfl, ⟨rfl, _, rfl, rfl, ⟨rfl, _, rfl, rfl, k⟩⟩⟩⟩
      | some u => exact ⟨rfl, ⟨rfl, _, rfl, rfl, ⟨rfl, _, rfl, rfl, ⟨rfl, _, rfl, rfl, k⟩⟩⟩⟩
    | some l => cases hi with
      | none => exact ⟨rfl, ⟨rfl, _, rfl, rfl, ⟨rfl, _, rfl, rfl, ⟨rfl, _, rfl, rfl, k⟩⟩⟩⟩
      | some u =>
        have h : decide (l ≤ u) = true := decide_eq_true (hok l u rfl rfl)
        refine ⟨rfl, ⟨rfl, _, rfl, rfl, ⟨rfl, _, rfl, rfl, ⟨rfl, _, rfl, rfl, ?_⟩⟩⟩⟩
        show PQ (.d (.bool (decide (l ≤ u)))) []
        rw [h]
        exact k
abbrev nmPCheckClamp : List Str := ["thing"]
theorem scPCheckClamp : FnScope nmPCheckClamp ["thing"] (defScope sPCheckClamp) := ⟨rfl, rfl, rfl, by decide +kernel, rfl, by decide +kernel, by decide +kernel⟩
theorem okPCheckClamp {f : Addr} {fd : FuncData} (D : Def K mg "check_clamp" sPCheckClamp ["thing"] f fd) (T : Txt K mg)
    {fPIsClamp : Addr} {fdPIsClamp : FuncData} (DPIsClamp : Def K mg "is_clamp" sPIsClamp ["thing"] fPIsClamp fdPIsClamp) (GPIsClamp : FnOk P w K mg base CX0 3 fPIsClamp fdPIsClamp ["thing"] (liftSp K pspIsClamp)) :
    FnOk P w K mg base CX0 4 f fd ["thing"] (liftSp K pspCheckClamp) := by
  refine fnP D.F scPCheckClamp (fun cdv A outer s H E hr R => (bw_one (sw_if (tw_not (tw_tru (ew_call GPIsClamp (hr.mono (by decide)) DPIsClamp.m DPIsClamp.F.kp DPIsClamp.b (aw_cons (ew_var 0) aw_nil)))) (bw_one sw_never) bw_nil))) (fun dvs O PQ q => ?_)
  obtain ⟨x, c, rfl, rfl, hx, k⟩ := q
  exact ⟨rfl, rfl, x, c, rfl, rfl, hx, k⟩
abbrev nmPKeptWithin : List Str := ["x", "low", "high"]
theorem scPKeptWithin : FnScope nmPKeptWithin ["x", "low", "high"] (defScope sPKeptWithin) := ⟨rfl, rfl, rfl, by decide +kernel, rfl, by decide +kernel, by decide +kernel⟩
theorem okPKeptWithin {f : Addr} {fd : FuncData} (D : Def K mg "kept_within" sPKeptWithin ["x", "low", "high"] f fd) (T : Txt K mg) :
    FnOk P w K mg base CX0 1 f fd ["x", "low", "high"] (liftSp K pspKept) := by
  refine fnP D.F scPKeptWithin (fun cdv A outer s H E hr R => (bw_cons (sw_if (tw_ww (ww_and (tw_cmp ow_isNot (ew_var 1) ew_non) (ww_and1 (tw_cmp ow_lt (ew_var 0) (ew_var 1))))) (bw_one (sw_ret (ew_var 1))) bw_nil)
      (bw_one (sw_ret (ew_if (tw_ww (ww_and (tw_cmp ow_isNot (ew_var 2) ew_non) (ww_and1 (tw_cmp ow_gt (ew_var 0) (ew_var 2))))) (ew_var 2) (ew_var 0)))))) (fun dvs O PQ q => ?_)
  obtain ⟨x, lo, hi, rfl, rfl, k⟩ := q
  refine ⟨rfl, ?_⟩
  cases lo with
  | none => cases hi with
    | none => exact k
    | some u =>
      show (match decide (u < x) with | true => _ | false => _)
      by_cases h : u < x
      · rw [decide_eq_true h]
        have e : kwI x none (some u) = u := by simp only [kwI]; rw [if_pos h]
        rw [e] at k
        exact k
      · rw [decide_eq_false h]
        have e : kwI x none (some u) = x := by simp only [kwI]; rw [if_neg h]
        rw [e] at k
        exact k
  | some l =>
    show (match decide (x < l) with | true => _ | false => _)
    by_cases h1 : x < l
    · rw [decide_eq_true h1]
      have e : kwI x (some l) hi = l := by simp only [kwI]; rw [if_pos h1]
      rw [e] at k
      exact k
    · rw [decide_eq_false h1]
      cases hi with
      | none =>
        have e : kwI x (some l) none = x := by simp only [kwI]; rw [if_neg h1]
        rw [e] at k
        exact k
      | some u =>
        show (match decide (u < x) with | true => _ | false => _)
        by_cases h : u < x
        · rw [decide_eq_true h]
          have e : kwI x (some l) (some u) = u := by simp only [kwI]; rw [if_neg h1, if_pos h]
          rw [e] at k
          exact k
        · rw [decide_eq_false h]
          have e : kwI x (some l) (some u) = x := by simp only [kwI]; rw [if_neg h1, if_neg h]
          rw [e] at k
          exact k
abbrev nmPInForm : List Str := ["low", "step", "high"]
theorem scPInForm : FnScope nmPInForm ["low", "step", "high"] (defScope sPInForm) := ⟨rfl, rfl, rfl, by decide +kernel, rfl, by decide +kernel, by decide +kernel⟩
theorem okPInForm {f : Addr} {fd : FuncData} (D : Def K mg "in_form" sPInForm ["low", "step", "high"] f fd) (T : Txt K mg) :
    FnOk P w K mg base CX0 1 f fd ["low", "step", "high"] (liftSp K pspInForm) := by
  refine fnP D.F scPInForm (fun cdv A outer s H E hr R => (bw_one (sw_ret (ew_tup (aw_cons (ew_var 0) (aw_cons (ew_if (tw_ww (ww_and (tw_cmp ow_isNot (ew_var 0) ew_non) (ww_and1 (tw_cmp (ow_eq (hu65 hr)) (ew_var 0) (ew_var 2))))) ew_int (ew_var 1)) (aw_cons (ew_var 2) aw_nil))))))) (fun dvs O PQ q => ?_)
  obtain ⟨⟨lo, s, hi⟩, rfl, rfl, k⟩ := q
  refine ⟨rfl, ?_⟩
  cases lo with
  | none => exact k
  | some l =>
    cases hi with
    | none => exact k
    | some u =>
      show (match (l == u) with | true => _ | false => _)
      by_cases h : l = u
      · subst h
        rw [beq_self_eq_true]
        have e : formC ⟨some l, s, some l⟩ = ⟨some l, 0, some l⟩ := by simp [formC]
        rw [e] at k
        exact k
      · rw [beq_eq_false_iff_ne.mpr h]
        have e : formC ⟨some l, s, some u⟩ = ⟨some l, s, some u⟩ := by simp [formC, h]
        rw [e] at k
        exact k
abbrev nmPBoth : List Str := ["one", "other", "low", "step", "high"]
theorem scPBoth : FnScope nmPBoth ["one", "other"] (defScope sPBoth) := ⟨rfl, rfl, rfl, by decide +kernel, rfl, by decide +kernel, by decide +kernel⟩
theorem okPBoth {f : Addr} {fd : FuncData} (D : Def K mg "both" sPBoth ["one", "other"] f fd) (T : Txt K mg)
    {fPInForm : Addr} {fdPInForm : FuncData} (DPInForm : Def K mg "in_form" sPInForm ["low", "step", "high"] fPInForm fdPInForm) (GPInForm : FnOk P w K mg base CX0 1 fPInForm fdPInForm ["low", "step", "high"] (liftSp K pspInForm))
    {fPKeptWithin : Addr} {fdPKeptWithin : FuncData} (DPKeptWithin : Def K mg "kept_within" sPKeptWithin ["x", "low", "high"] fPKeptWithin fdPKeptWithin) (GPKeptWithin : FnOk P w K mg base CX0 1 fPKeptWithin fdPKeptWithin ["x", "low", "high"] (liftSp K pspKept)) :
    FnOk P w K mg base CX0 2 f fd ["one", "other"] (liftSp K pspBoth) := by
  refine fnP D.F scPBoth (fun cdv A outer s H E hr R => (bw_cons (sw_asg (ew_var 1) (gw_tup (n := 3) rfl (gsw_cons (gw_name (i := 2) scPBoth.nd) (gsw_cons (gw_name (i := 3) scPBoth.nd) (gsw_cons (gw_name (i := 4) scPBoth.nd) gsw_nil)))))
      (bw_one (sw_ret (ew_call GPInForm (hr.mono (by decide)) DPInForm.m DPInForm.F.kp DPInForm.b (aw_cons (ew_if (tw_cmp ow_is (ew_ix (ew_var 0) ew_int) ew_non) (ew_var 2) (ew_call GPKeptWithin (hr.mono (by decide)) DPKeptWithin.m DPKeptWithin.F.kp DPKeptWithin.b (aw_cons (ew_bin ow_add (ew_ix (ew_var 0) ew_int) (ew_var 3)) (aw_cons (ew_var 2) (aw_cons (ew_var 4) aw_nil))))) (aw_cons (ew_bin ow_add (ew_ix (ew_var 0) ew_int) (ew_var 3)) (aw_cons (ew_if (tw_cmp ow_is (ew_ix (ew_var 0) ew_int) ew_non) (ew_var 4) (ew_call GPKeptWithin (hr.mono (by decide)) DPKeptWithin.m DPKeptWithin.F.kp DPKeptWithin.b (aw_cons (ew_bin ow_add (ew_ix (ew_var 0) ew_int) (ew_var 3)) (aw_cons (ew_var 2) (aw_cons (ew_var 4) aw_nil))))) aw_nil)))))))) (fun dvs O PQ q => ?_)
  obtain ⟨⟨la, sa, ua⟩, x, ⟨lb, sb, ub⟩, rfl, rfl, ⟨hx, hok⟩, k⟩ := q
  refine ⟨rfl, ?_⟩
  rcases hx with rfl | rfl
  all_goals
    refine ⟨rfl, ?_⟩
    cases la with
    | none => cases ua with
      | none => exact ⟨rfl, ⟨lb, sa + sb, ub⟩, rfl, rfl, k⟩
      | some v => exact ⟨rfl, v + sb, lb, ub, rfl, rfl, ⟨rfl, ⟨lb, sa + sb, some (kwI (v + sb) lb ub)⟩, rfl, rfl, k⟩⟩
    | some l => cases ua with
      | none => exact ⟨rfl, l + sb, lb, ub, rfl, rfl, ⟨rfl, ⟨some (kwI (l + sb) lb ub), sa + sb, ub⟩, rfl, rfl, k⟩⟩
      | some v => exact ⟨rfl, l + sb, lb, ub, rfl, rfl, ⟨rfl, v + sb, lb, ub, rfl, rfl, ⟨rfl, ⟨some (kwI (l + sb) lb ub), sa + sb, some (kwI (v + sb) lb ub)⟩, rfl, rfl, k⟩⟩⟩
abbrev nmPAllJoined : List Str := ["clamps", "told", "clamp"]
theorem scPAllJoined : FnScope nmPAllJoined ["clamps"] (defScope sPAllJoined) := ⟨rfl, rfl, rfl, by decide +kernel, rfl, by decide +kernel, by decide +kernel⟩
theorem okPAllJoined {f : Addr} {fd : FuncData} (D : Def K mg "all_joined" sPAllJoined ["clamps"] f fd) (T : Txt K mg)
    {fPBoth : Addr} {fdPBoth : FuncData} (DPBoth : Def K mg "both" sPBoth ["one", "other"] fPBoth fdPBoth) (GPBoth : FnOk P w K mg base CX0 2 fPBoth fdPBoth ["one", "other"] (liftSp K pspBoth))
    {vN : L2.V} {uN : Value} (M_NOTHING : ModC K mg "NOTHING" (.tuple [.none, .int 0, .none]) vN uN) :
    FnOk P w K mg base CX0 3 f fd ["clamps"] (liftSp K pspAllJoined2) := by
  refine fnP D.F scPAllJoined (fun cdv A outer s H E hr R => (bw_cons (sw_set (i := 1) scPAllJoined.nd (ew_glob M_NOTHING.m (by rfl) M_NOTHING.r M_NOTHING.d))
      (bw_cons (sw_for PassesOwn.never rfl (iw_seq (ew_var 0)) (gw_name (i := 2) scPAllJoined.nd) (bw_one (sw_set (i := 1) scPAllJoined.nd (ew_call GPBoth (hr.mono (by decide)) DPBoth.m DPBoth.F.kp DPBoth.b (aw_cons (ew_var 1) (aw_cons (ew_var 2) aw_nil))))))
      (bw_one (sw_ret (ew_var 1)))))) (fun dvs O PQ q => ?_)
  obtain ⟨x, xs, cs, rfl, rfl, hx, hc, k⟩ := q
  rcases hx with rfl | rfl
  · refine ⟨rfl, ?_⟩
    refine loop_ind (fun ds Γ O => ∃ (ys : List PyData) (es : List Cl) (a : Cl) (u : Option DV), ds = ys.map .d ∧ Paired IsCl ys es ∧ Γ = [some (.d (.list xs)), some (.d (.tuple a.ds)), u] ∧ O = [] ∧ es.foldl bothC a = joinC cs) (fun Γ O j => ?_) (fun d ds Γ O j ih => ?_) _ _ _ ⟨xs, cs, idC, none, rfl, hc, rfl, rfl, rfl⟩
    · obtain ⟨ys, es, a, u, h1, h2, rfl, rfl, h5⟩ := j
      cases ys with
      | cons y ys => cases h1
      | nil =>
        cases h2
        refine ⟨trivial, ?_⟩
        rw [← h5] at k
        exact k
    · obtain ⟨ys, es, a, u, h1, h2, rfl, rfl, h5⟩ := j
      cases ys with
      | nil => cases h1
      | cons y ys =>
        cases h1
        cases h2 with
        | cons e1 e2 => exact ⟨trivial, rfl, a, y, _, rfl, rfl, e1, ih _ _ ⟨ys, _, _, _, rfl, e2, rfl, rfl, h5⟩⟩
  · refine ⟨rfl, ?_⟩
    refine loop_ind (fun ds Γ O => ∃ (ys : List PyData) (es : List Cl) (a : Cl) (u : Option DV), ds = ys.map .d ∧ Paired IsCl ys es ∧ Γ = [some (.d (.tuple xs)), some (.d (.tuple a.ds)), u] ∧ O = [] ∧ es.foldl bothC a = joinC cs) (fun Γ O j => ?_) (fun d ds Γ O j ih => ?_) _ _ _ ⟨xs, cs, idC, none, rfl, hc, rfl, rfl, rfl⟩
    · obtain ⟨ys, es, a, u, h1, h2, rfl, rfl, h5⟩ := j
      cases ys with
      | cons y ys => cases h1
      | nil =>
        cases h2
        refine ⟨trivial, ?_⟩
        rw [← h5] at k
        exact k
    · obtain ⟨ys, es, a, u, h1, h2, rfl, rfl, h5⟩ := j
      cases ys with
      | nil => cases h1
      | cons y ys =>
        cases h1
        cases h2 with
        | cons e1 e2 => exact ⟨trivial, rfl, a, y, _, rfl, rfl, e1, ih _ _ ⟨ys, _, _, _, rfl, e2, rfl, rfl, h5⟩⟩
abbrev nmPJoined : List Str := ["clamps", "index", "clamp"]
theorem scPJoined : FnScope nmPJoined ["clamps"] (defScope sPJoined) := ⟨rfl, rfl, rfl, by decide +kernel, rfl, by decide +kernel, by decide +kernel⟩
theorem okPJoined {f : Addr} {fd : FuncData} (D : Def K mg "joined" sPJoined ["clamps"] f fd) (T : Txt K mg)
    {fPAllJoined : Addr} {fdPAllJoined : FuncData} (DPAllJoined : Def K mg "all_joined" sPAllJoined ["clamps"] fPAllJoined fdPAllJoined) (GPAllJoined : FnOk P w K mg base CX0 3 fPAllJoined fdPAllJoined ["clamps"] (liftSp K pspAllJoined2))
    {fPIsClamp : Addr} {fdPIsClamp : FuncData} (DPIsClamp : Def K mg "is_clamp" sPIsClamp ["thing"] fPIsClamp fdPIsClamp) (GPIsClamp : FnOk P w K mg base CX0 3 fPIsClamp fdPIsClamp ["thing"] (liftSp K pspIsClamp))
    {fPIsList : Addr} {fdPIsList : FuncData} (DPIsList : Def K mg "is_list" sPIsList ["thing"] fPIsList fdPIsList) (GPIsList : FnOk P w K mg base CX0 1 fPIsList fdPIsList ["thing"] (liftSp K pspIsList)) :
    FnOk P w K mg base CX0 4 f fd ["clamps"] (liftSp K pspJoined2) := by
  refine fnP D.F scPJoined (fun cdv A outer s H E hr R => (bw_cons (sw_if (tw_not (tw_tru (ew_call GPIsList (hr.mono (by decide)) DPIsList.m DPIsList.F.kp DPIsList.b (aw_cons (ew_var 0) aw_nil)))) (bw_one sw_never) bw_nil)
      (bw_cons (sw_for PassesOwn.never rfl (iw_enumB T.enumerate (aw_cons (ew_var 0) aw_nil)) (gw_tup (n := 2) rfl (gsw_cons (gw_name (i := 1) scPJoined.nd) (gsw_cons (gw_name (i := 2) scPJoined.nd) gsw_nil))) (bw_one (sw_if (tw_not (tw_tru (ew_call GPIsClamp (hr.mono (by decide)) DPIsClamp.m DPIsClamp.F.kp DPIsClamp.b (aw_cons (ew_var 2) aw_nil)))) (bw_one sw_never) bw_nil)))
      (bw_one (sw_ret (ew_call GPAllJoined (hr.mono (by decide)) DPAllJoined.m DPAllJoined.F.kp DPAllJoined.b (aw_cons (ew_var 0) aw_nil))))))) (fun dvs O PQ q => ?_)
  obtain ⟨x, xs, cs, rfl, rfl, hx, hc, k⟩ := q
  rcases hx with rfl | rfl
  · refine ⟨rfl, ?_⟩
    refine ⟨rfl, _, rfl, rfl, ?_⟩
    refine loop_ind (fun ds Γ O => ∃ (ys : List PyData) (es : List Cl) (n : Nat) (u v : Option DV), ds = enumD n ys ∧ Paired IsCl ys es ∧ Γ = [some (.d (.list xs)), u, v] ∧ O = []) (fun Γ O j => ?_) (fun d ds Γ O j ih => ?_) _ _ _ ⟨xs, cs, 0, none, none, rfl, hc, rfl, rfl⟩
    · obtain ⟨ys, es, n, u, v, h1, h2, rfl, rfl⟩ := j
      exact ⟨trivial, rfl, _, xs, cs, rfl, rfl, (.inl rfl), hc, k⟩
    · obtain ⟨ys, es, n, u, v, h1, h2, rfl, rfl⟩ := j
      cases ys with
      | nil => cases h1
      | cons y ys =>
        cases h1
        cases h2 with
        | cons e1 e2 => exact ⟨trivial, rfl, rfl, y, _, rfl, rfl, e1, ih _ _ ⟨ys, _, n + 1, _, _, rfl, e2, rfl, rfl⟩⟩
  · refine ⟨rfl, ?_⟩
    refine ⟨rfl, _, rfl, rfl, ?_⟩
    refine loop_ind (fun ds Γ O => ∃ (ys : List PyData) (es : List Cl) (n : Nat) (u v : Option DV), ds = enumD n ys ∧ Paired IsCl ys es ∧ Γ = [some (.d (.tuple xs)), u, v] ∧ O = []) (fun Γ O j => ?_) (fun d ds Γ O j ih => ?_) _ _ _ ⟨xs, cs, 0, none, none, rfl, hc, rfl, rfl⟩
    · obtain ⟨ys, es, n, u, v, h1, h2, rfl, rfl⟩ := j
      exact ⟨trivial, rfl, _, xs, cs, rfl, rfl, (.inr rfl), hc, k⟩
    · obtain ⟨ys, es, n, u, v, h1, h2, rfl, rfl⟩ := j
      cases ys with
      | nil => cases h1
      | cons y ys =>
        cases h1
        cases h2 with
        | cons e1 e2 => exact ⟨trivial, rfl, rfl, y, _, rfl, rfl, e1, ih _ _ ⟨ys, _, n + 1, _, _, rfl, e2, rfl, rfl⟩⟩
abbrev nmPCheckNumber : List Str := ["thing"]
theorem scPCheckNumber : FnScope nmPCheckNumber ["thing"] (defScope sPCheckNumber) := ⟨rfl, rfl, rfl, by decide +kernel, rfl, by decide +kernel, by decide +kernel⟩
theorem okPCheckNumber {f : Addr} {fd : FuncData} (D : Def K mg "check_number" sPCheckNumber ["thing"] f fd) (T : Txt K mg)
    {fPIsInt : Addr} {fdPIsInt : FuncData} (DPIsInt : Def K mg "is_int" sPIsInt ["thing"] fPIsInt fdPIsInt) (GPIsInt : FnOk P w K mg base CX0 1 fPIsInt fdPIsInt ["thing"] (liftSp K pspIsInt)) :
    FnOk P w K mg base CX0 2 f fd ["thing"] (liftSp K pspCheckNumber) := by
  refine fnP D.F scPCheckNumber (fun cdv A outer s H E hr R => (bw_one (sw_if (tw_not (tw_tru (ew_call GPIsInt (hr.mono (by decide)) DPIsInt.m DPIsInt.F.kp DPIsInt.b (aw_cons (ew_var 0) aw_nil)))) (bw_one sw_never) bw_nil))) (fun dvs O PQ q => ?_)
  obtain ⟨i, rfl, rfl, k⟩ := q
  exact ⟨rfl, rfl, .int i, rfl, rfl, k⟩
abbrev nmPClamped : List Str := ["clamp", "x", "low", "step", "high"]
theorem scPClamped : FnScope nmPClamped ["clamp", "x"] (defScope sPClamped) := ⟨rfl, rfl, rfl, by decide +kernel, rfl, by decide +kernel, by decide +kernel⟩
theorem okPClamped {f : Addr} {fd : FuncData} (D : Def K mg "clamped" sPClamped ["clamp", "x"] f fd) (T : Txt K mg)
    {fPKeptWithin : Addr} {fdPKeptWithin : FuncData} (DPKeptWithin : Def K mg "kept_within" sPKeptWithin ["x", "low", "high"] fPKeptWithin fdPKeptWithin) (GPKeptWithin : FnOk P w K mg base CX0 1 fPKeptWithin fdPKeptWithin ["x", "low", "high"] (liftSp K pspKept))
    {fPCheckNumber : Addr} {fdPCheckNumber : FuncData} (DPCheckNumber : Def K mg "check_number" sPCheckNumber ["thing"] fPCheckNumber fdPCheckNumber) (GPCheckNumber : FnOk P w K mg base CX0 2 fPCheckNumber fdPCheckNumber ["thing"] (liftSp K pspCheckNumber))
    {fPCheckClamp : Addr} {fdPCheckClamp : FuncData} (DPCheckClamp : Def K mg "check_clamp" sPCheckClamp ["thing"] fPCheckClamp fdPCheckClamp) (GPCheckClamp : FnOk P w K mg base CX0 4 fPCheckClamp fdPCheckClamp ["thing"] (liftSp K pspCheckClamp)) :
    FnOk P w K mg base CX0 5 f fd ["clamp", "x"] (liftSp K pspClamped) := by
  refine fnP D.F scPClamped (fun cdv A outer s H E hr R => (bw_cons (sw_expr (ew_call GPCheckClamp (hr.mono (by decide)) DPCheckClamp.m DPCheckClamp.F.kp DPCheckClamp.b (aw_cons (ew_var 0) aw_nil)))
      (bw_cons (sw_expr (ew_call GPCheckNumber (hr.mono (by decide)) DPCheckNumber.m DPCheckNumber.F.kp DPCheckNumber.b (aw_cons (ew_var 1) aw_nil)))
      (bw_cons (sw_asg (ew_var 0) (gw_tup (n := 3) rfl (gsw_cons (gw_name (i := 2) scPClamped.nd) (gsw_cons (gw_name (i := 3) scPClamped.nd) (gsw_cons (gw_name (i := 4) scPClamped.nd) gsw_nil)))))
      (bw_one (sw_ret (ew_call GPKeptWithin (hr.mono (by decide)) DPKeptWithin.m DPKeptWithin.F.kp DPKeptWithin.b (aw_cons (ew_bin ow_add (ew_var 1) (ew_var 3)) (aw_cons (ew_var 2) (aw_cons (ew_var 4) aw_nil)))))))))) (fun dvs O PQ q => ?_)
  obtain ⟨x, c, i, rfl, rfl, hx, k⟩ := q
  refine ⟨rfl, ?_⟩
  refine ⟨rfl, x, c, rfl, rfl, hx, ?_⟩
  refine ⟨rfl, i, rfl, rfl, ?_⟩
  obtain ⟨lo, s, hi⟩ := c
  obtain ⟨hx, hok⟩ := hx
  rcases hx with rfl | rfl
  · exact ⟨rfl, rfl, i + s, lo, hi, rfl, rfl, k⟩
  · exact ⟨rfl, rfl, i + s, lo, hi, rfl, rfl, k⟩
abbrev nmPShown : List Str := ["clamp", "x", "low", "step", "high"]
theorem scPShown : FnScope nmPShown ["clamp", "x"] (defScope sPShown) := ⟨rfl, rfl, rfl, by decide +kernel, rfl, by decide +kernel, by decide +kernel⟩
theorem okPShown {f : Addr} {fd : FuncData} (D : Def K mg "shown" sPShown ["clamp", "x"] f fd) (T : Txt K mg)
    {fPKeptWithin : Addr} {fdPKeptWithin : FuncData} (DPKeptWithin : Def K mg "kept_within" sPKeptWithin ["x", "low", "high"] fPKeptWithin fdPKeptWithin) (GPKeptWithin : FnOk P w K mg base CX0 1 fPKeptWithin fdPKeptWithin ["x", "low", "high"] (liftSp K pspKept))
    {fPCheckNumber : Addr} {fdPCheckNumber : FuncData} (DPCheckNumber : Def K mg "check_number" sPCheckNumber ["thing"] fPCheckNumber fdPCheckNumber) (GPCheckNumber : FnOk P w K mg base CX0 2 fPCheckNumber fdPCheckNumber ["thing"] (liftSp K pspCheckNumber))
    {fPCheckClamp : Addr} {fdPCheckClamp : FuncData} (DPCheckClamp : Def K mg "check_clamp" sPCheckClamp ["thing"] fPCheckClamp fdPCheckClamp) (GPCheckClamp : FnOk P w K mg base CX0 4 fPCheckClamp fdPCheckClamp ["thing"] (liftSp K pspCheckClamp)) :
    FnOk P w K mg base CX0 5 f fd ["clamp", "x"] (liftSp K pspShown) := by
  refine fnP D.F scPShown (fun cdv A outer s H E hr R => (bw_cons (sw_expr (ew_call GPCheckClamp (hr.mono (by decide)) DPCheckClamp.m DPCheckClamp.F.kp DPCheckClamp.b (aw_cons (ew_var 0) aw_nil)))
      (bw_cons (sw_expr (ew_call GPCheckNumber (hr.mono (by decide)) DPCheckNumber.m DPCheckNumber.F.kp DPCheckNumber.b (aw_cons (ew_var 1) aw_nil)))
      (bw_cons (sw_asg (ew_var 0) (gw_tup (n := 3) rfl (gsw_cons (gw_name (i := 2) scPShown.nd) (gsw_cons (gw_name (i := 3) scPShown.nd) (gsw_cons (gw_name (i := 4) scPShown.nd) gsw_nil)))))
      (bw_cons (sw_if (tw_cmp (ow_ne (hu65 hr)) (ew_call GPKeptWithin (hr.mono (by decide)) DPKeptWithin.m DPKeptWithin.F.kp DPKeptWithin.b (aw_cons (ew_var 1) (aw_cons (ew_var 2) (aw_cons (ew_var 4) aw_nil)))) (ew_var 1)) (bw_one (sw_ret ew_non)) bw_nil)
      (bw_one (sw_ret (ew_tup (aw_cons (ew_if (tw_cmp (ow_eq (hu65 hr)) (ew_var 1) (ew_var 2)) ew_non (ew_bin ow_sub (ew_var 1) (ew_var 3))) (aw_cons (ew_if (tw_cmp (ow_eq (hu65 hr)) (ew_var 1) (ew_var 4)) ew_non (ew_bin ow_sub (ew_var 1) (ew_var 3))) aw_nil)))))))))) (fun dvs O PQ q => ?_)
  obtain ⟨x, c, i, rfl, rfl, hx, k⟩ := q
  refine ⟨rfl, ?_⟩
  refine ⟨rfl, x, c, rfl, rfl, hx, ?_⟩
  refine ⟨rfl, i, rfl, rfl, ?_⟩
  obtain ⟨lo, s, hi⟩ := c
  obtain ⟨hx, hok⟩ := hx
  rcases hx with rfl | rfl
  all_goals
    refine ⟨rfl, rfl, i, lo, hi, rfl, rfl, ?_⟩
    show (match (!(kwI i lo hi == i)) with | true => _ | false => _)
    by_cases h : kwI i lo hi = i
    · have e : shownC ⟨lo, s, hi⟩ i = some (if lo = some i then none else some (i - s), if hi = some i then none else some (i - s)) := by simp only [shownC]; rw [if_pos h]
      rw [e] at k
      rw [h, beq_self_eq_true]
      cases lo with
      | none => cases hi with
        | none => exact k
        | some u =>
          show (match (i == u) with | true => _ | false => _)
          by_cases hu : i = u
          · subst hu
            rw [beq_self_eq_true]
            simp only [if_pos] at k
            exact k
          · rw [beq_eq_false_iff_ne.mpr hu]
            rw [if_neg (show ¬ some u = some i from fun z => hu (Option.some.inj z).symm)] at k
            exact k
      | some l =>
        show (match (i == l) with | true => _ | false => _)
        by_cases hl : i = l
        · subst hl
          rw [beq_self_eq_true]
          rw [if_pos rfl] at k
          cases hi with
          | none => exact k
          | some u =>
            show (match (i == u) with | true => _ | false => _)
            by_cases hu : i = u
            · subst hu
              rw [beq_self_eq_true]
              rw [if_pos rfl] at k
              exact k
            · rw [beq_eq_false_iff_ne.mpr hu]
              rw [if_neg (show ¬ some u = some i from fun z => hu (Option.some.inj z).symm)] at k
              exact k
        · rw [beq_eq_false_iff_ne.mpr hl]
          rw [if_neg (show ¬ some l = some i from fun z => hl (Option.some.inj z).symm)] at k
          cases hi with
          | none => exact k
          | some u =>
            show (match (i == u) with | true => _ | false => _)
            by_cases hu : i = u
            · subst hu
              rw [beq_self_eq_true]
              rw [if_pos rfl] at k
              exact k
            · rw [beq_eq_false_iff_ne.mpr hu]
              rw [if_neg (show ¬ some u = some i from fun z => hu (Option.some.inj z).symm)] at k
              exact k
    · have e : shownC ⟨lo, s, hi⟩ i = none := by simp only [shownC]; rw [if_neg h]
      rw [e] at k
      rw [beq_eq_false_iff_ne.mpr h]
      exact k
end
end PW

namespace PW
open PySem PySem.Spec PyProof.Rows L2
section
variable {P : Program} {w : World} {K : PySem.W.Frag} {mg : Str → Option Value} {base : Heap}
abbrev nmLSame : List Str := ["_law_found", "_law_due", "_law_one", "_law_other"]
theorem scLSame : FnScope nmLSame ["_law_found", "_law_due"] (defScope sLSame) := ⟨rfl, rfl, rfl, by decide +kernel, rfl, by decide +kernel, by decide +kernel⟩
theorem okLSame {f : Addr} {fd : FuncData} (D : Def K mg "_law_same" sLSame ["_law_found", "_law_due"] f fd) (T : Txt K mg) : ∀ n, FnOk P w K mg base CX0 n f fd ["_law_found", "_law_due"] (liftSp K (pspSame n))
  | 0 => ⟨fun vs H Q E h => by obtain ⟨_, _, _, _, _, _, ⟨_, _, _, _, z, _⟩, _⟩ := h; exact absurd z (Nat.not_lt_zero _), fun A outer s H args us vs Q E _ _ _ _ h => by obtain ⟨_, _, _, _, _, _, ⟨_, _, _, _, z, _⟩, _⟩ := h; exact absurd z (Nat.not_lt_zero _)⟩
  | n + 1 => by
    have G := okLSame D T n
    refine fnPd D.F scLSame (fun cdv A outer s H E hr R => (bw_cons (sw_if (tw_tru (ew_isiT (ew_var 1) (tys_cons (T := .list) (tys_cons (T := .tuple) tys_nil T.tuple (by decide +kernel)) T.list (by decide +kernel)) T.isi)) (bw_cons (sw_if (tw_ww (ww_or (tw_cmp (ow_ne (hu65 hr)) (ew_isi (T := .list) (ew_var 0) T.isi T.list (by decide +kernel)) (ew_isi (T := .list) (ew_var 1) T.isi T.list (by decide +kernel))) (ww_or1 (tw_cmp (ow_ne (hu65 hr)) (ew_isi (T := .tuple) (ew_var 0) T.isi T.tuple (by decide +kernel)) (ew_isi (T := .tuple) (ew_var 1) T.isi T.tuple (by decide +kernel)))))) (bw_one (sw_ret ew_bl)) bw_nil)
      (bw_one (sw_ret (ew_and (ew_cmp (ow_eq (hu65 hr)) (ew_blt b_len T.len PySem.boot_len (aw_cons (ew_var 0) aw_nil)) (ew_blt b_len T.len PySem.boot_len (aw_cons (ew_var 1) aw_nil))) (ew_one (ew_blt (b_all rfl) T.all (by decide +kernel) (aw_cons (ew_lc (own := [("_law_one", 2), ("_law_other", 3)]) rfl scLSame.nd (iw_zip T.zip (aw_cons (ew_var 0) (aw_cons (ew_var 1) aw_nil))) (blkOk_by (N := nmLSame) (sc := defScope sLSame) (by decide +kernel)) (fun _ _ _ _ _ _ => (gc_tup (n := 2) rfl (gsc_cons (gc_name (i := 2) (by decide) scLSame.nd) (gsc_cons (gc_name (i := 3) (by decide) scLSame.nd) gsc_nil)))) (fun _ _ _ _ _ _ => ifw_nil) (fun _ _ _ _ _ _ => (ew_call G hr D.m D.F.kp D.b (aw_cons (ew_var 2) (aw_cons (ew_var 3) aw_nil))))) aw_nil))))))) bw_nil)
      (bw_cons (sw_if (tw_tru (ew_isiT (ew_var 1) (tys_cons (T := .bool) (tys_cons (T := .int) tys_nil T.int (by decide +kernel)) T.bool (by decide +kernel)) T.isi)) (bw_one (sw_ret (ew_and (ew_isi (T := .int) (ew_var 0) T.isi T.int (by decide +kernel)) (ew_and (ew_cmp (ow_eq (hu65 hr)) (ew_isi (T := .bool) (ew_var 0) T.isi T.bool (by decide +kernel)) (ew_isi (T := .bool) (ew_var 1) T.isi T.bool (by decide +kernel))) (ew_one (ew_cmp (ow_eq (hu65 hr)) (ew_var 0) (ew_var 1))))))) bw_nil)
      (bw_one (sw_ret (ew_and (ew_not (ew_isiT (ew_var 0) (tys_cons (T := .bool) (tys_cons (T := .int) (tys_cons (T := .list) (tys_cons (T := .tuple) tys_nil T.tuple (by decide +kernel)) T.list (by decide +kernel)) T.int (by decide +kernel)) T.bool (by decide +kernel)) T.isi)) (ew_one (ew_cmp (ow_eq (hu65 hr)) (ew_var 0) (ew_var 1))))))))) (fun dvs O PQ q hp => ?_)
    obtain ⟨x, y, rfl, rfl, hd, hw, k⟩ := q
    have hx : plain x = true := hp x (by simp)
    have hy : plain y = true := hp y (by simp)
    refine ⟨rfl, ?_⟩
    cases y with
    | dict kvs => cases hy
    | none => cases x with
      | dict _ => cases hx
      | none => exact k
      | bool _ => exact k
      | int _ => exact k
      | str _ => exact k
      | list _ => exact k
      | tuple _ => exact k
    | bool b => cases x with
      | dict _ => cases hx
      | none => exact k
      | bool _ => exact k
      | int _ => exact k
      | str _ => exact k
      | list _ => exact k
      | tuple _ => exact k
    | int i => cases x with
      | dict _ => cases hx
      | none => exact k
      | bool _ => exact k
      | int _ => exact k
      | str _ => exact k
      | list _ => exact k
      | tuple _ => exact k
    | str z => cases x with
      | dict _ => cases hx
      | none => exact k
      | bool _ => exact k
      | int _ => exact k
      | str _ => exact k
      | list _ => exact k
      | tuple _ => exact k
    | list ys =>
      cases x with
      | dict _ => cases hx
      | list xs =>
        have hdy : depL ys < n := by rw [dep] at hd; omega
        have hwy : ys.length ≤ 100000 ∧ wdL ys ≤ 100000 := by rw [wd] at hw; omega
        show (match (((xs.length : Nat) : Int) == ((ys.length : Nat) : Int)) with | true => _ | false => _)
        by_cases hl : xs.length = ys.length
        · rw [show (((xs.length : Nat) : Int) == ((ys.length : Nat) : Int)) = true by simp [hl]]
          refine ⟨by show (zipD xs ys).length ≤ 100000; rw [zipD_len]; omega, ?_⟩
          refine lc_map smP ⟨trivial, trivial⟩ _ _ (fun d hd' Q' q' => ?_) ?_
          · obtain ⟨a, b, ha, hb, rfl⟩ := zipD_mem hd'
            have h1 := depL_mem hb
            have h2 := wdL_mem hb
            exact ⟨rfl, rfl, a, b, rfl, rfl, by omega, by omega, q'⟩
          · have hz : boolsOf ([] ++ (zipD xs ys).map smP) = some ((zipD xs ys).map smB) := by rw [List.nil_append, smP_map, boolsOf_map]
            show (match boolsOf ([] ++ (zipD xs ys).map smP) with | some is => _ | none => False)
            rw [hz]
            have e : sm (.list xs) (.list ys) = ((zipD xs ys).map smB).all id := by rw [sm, smL_zip xs ys hl]
            rw [e] at k
            exact k
        · rw [show (((xs.length : Nat) : Int) == ((ys.length : Nat) : Int)) = false from beq_eq_false_iff_ne.mpr (by omega)]
          have e : sm (.list xs) (.list ys) = false := by
            rw [sm]
            cases h : smL xs ys with
            | true => exact (hl (smL_len xs ys h)).elim
            | false => rfl
          rw [e] at k
          exact k
      | none => exact k
      | bool _ => exact k
      | int _ => exact k
      | str _ => exact k
      | tuple _ => exact k
    | tuple ys =>
      cases x with
      | dict _ => cases hx
      | tuple xs =>
        have hdy : depL ys < n := by rw [dep] at hd; omega
        have hwy : ys.length ≤ 100000 ∧ wdL ys ≤ 100000 := by rw [wd] at hw; omega
        show (match (((xs.length : Nat) : Int) == ((ys.length : Nat) : Int)) with | true => _ | false => _)
        by_cases hl : xs.length = ys.length
        · rw [show (((xs.length : Nat) : Int) == ((ys.length : Nat) : Int)) = true by simp [hl]]
          refine ⟨by show (zipD xs ys).length ≤ 100000; rw [zipD_len]; omega, ?_⟩
          refine lc_map smP trivial _ _ (fun d hd' Q' q' => ?_) ?_
          · obtain ⟨a, b, ha, hb, rfl⟩ := zipD_mem hd'
            have h1 := depL_mem hb
            have h2 := wdL_mem hb
            exact ⟨rfl, rfl, a, b, rfl, rfl, by omega, by omega, q'⟩
          · have hz : boolsOf ([] ++ (zipD xs ys).map smP) = some ((zipD xs ys).map smB) := by rw [List.nil_append, smP_map, boolsOf_map]
            show (match boolsOf ([] ++ (zipD xs ys).map smP) with | some is => _ | none => False)
            rw [hz]
            have e : sm (.tuple xs) (.tuple ys) = ((zipD xs ys).map smB).all id := by rw [sm, smL_zip xs ys hl]
            rw [e] at k
            exact k
        · rw [show (((xs.length : Nat) : Int) == ((ys.length : Nat) : Int)) = false from beq_eq_false_iff_ne.mpr (by omega)]
          have e : sm (.tuple xs) (.tuple ys) = false := by
            rw [sm]
            cases h : smL xs ys with
            | true => exact (hl (smL_len xs ys h)).elim
            | false => rfl
          rw [e] at k
          exact k
      | none => exact k
      | bool _ => exact k
      | int _ => exact k
      | str _ => exact k
      | list _ => exact k
end
end PW

namespace PW
open PySem PySem.Spec PyProof.Rows L2
section
variable {P : Program} {w : World} {K : PySem.W.Frag} {mg : Str → Option Value} {base : Heap}

/-- a clamp that the law draws -/
structure DrawnC (far : Bool) (c : Cl) : Prop where
  ok : c.ok
  l1 : ∀ l, c.lo = some l → -10 ≤ l
  l2 : ∀ l, c.lo = some l → l ≤ 10
  u1 : ∀ l, c.hi = some l → -10 ≤ l
  u2 : ∀ l, c.hi = some l → l ≤ 10
  s : (-9 ≤ c.s ∧ c.s ≤ 9) ∨ (far = true ∧ (c.s = 100000000000 ∨ c.s = -100000000000))
def pspClampL : PSp := fun dvs O Q => ∃ far, dvs = [.o 0, .d (.bool far)] ∧ O = [.dr] ∧ ∀ c, DrawnC far c → Q (.d (.tuple c.ds)) [.dr]
theorem sortI2 (a b : Int) : ∃ l h, sortI [a, b] = [l, h] ∧ l ≤ h ∧ ((l = a ∧ h = b) ∨ (l = b ∧ h = a)) := by
  by_cases e : a ≤ b
  · refine ⟨a, b, ?_, e, .inl ⟨rfl, rfl⟩⟩
    unfold sortI
    have := PySem.W.os_sorted_mergeSort (a := [a, b]) (b := [a, b]) (List.Perm.refl _) (by simp [e])
    exact this.symm
  · refine ⟨b, a, ?_, by omega, .inr ⟨rfl, rfl⟩⟩
    unfold sortI
    have := PySem.W.os_sorted_mergeSort (a := [b, a]) (b := [a, b]) (List.Perm.swap _ _ _) (by simp; omega)
    exact this.symm
def pspClampedL : PSp := fun dvs O Q => ∃ (c : Cl) (i : Int), dvs = [.d (.tuple c.ds), .d (.int i)] ∧ O = [] ∧ c.ok ∧ Q (.d (.int (c.act i))) []
def pspIsForm : PSp := fun dvs O Q => ∃ c : Cl, dvs = [.d (.tuple c.ds)] ∧ O = [] ∧ c.isForm ∧ Q (.d (.bool true)) []

abbrev nmLClamp : List Str := ["_law_draws", "_law_far", "_law_ends", "_law_way", "_law_steps", "_law_step", "_law_low", "_law_high"]
theorem scLClamp : FnScope nmLClamp ["_law_draws", "_law_far"] (defScope sLClamp) := ⟨rfl, rfl, rfl, by decide +kernel, rfl, by decide +kernel, by decide +kernel⟩
theorem okLClamp {f : Addr} {fd : FuncData} (D : Def K mg "_law_clamp" sLClamp ["_law_draws", "_law_far"] f fd) (T : Txt K mg)
    {fLPick : Addr} {fdLPick : FuncData} (DLPick : Def K mg "_law_pick" sLPick ["_law_draws", "_law_xs"] fLPick fdLPick) (GLPick : FnOk P w K mg base CX0 2 fLPick fdLPick ["_law_draws", "_law_xs"] (liftSp K pspPick))
    {fLDraw : Addr} {fdLDraw : FuncData} (DLDraw : Def K mg "_law_draw" sLDraw ["_law_draws", "_law_many"] fLDraw fdLDraw) (GLDraw : FnOk P w K mg base CX0 1 fLDraw fdLDraw ["_law_draws", "_law_many"] (liftSp K pspDraw)) :
    FnOk P w K mg base CX0 3 f fd ["_law_draws", "_law_far"] (liftSp K pspClampL) := by
  refine fnP D.F scLClamp (fun cdv A outer s H E hr R => (bw_cons (sw_set (i := 2) scLClamp.nd (ew_blt b_sortI T.sorted (by decide +kernel) (aw_cons (ew_lst (aw_cons (ew_bin ow_sub (ew_call GLDraw (hr.mono (by decide)) DLDraw.m DLDraw.F.kp DLDraw.b (aw_cons (ew_var 0) (aw_cons ew_int aw_nil))) ew_int) (aw_cons (ew_bin ow_sub (ew_call GLDraw (hr.mono (by decide)) DLDraw.m DLDraw.F.kp DLDraw.b (aw_cons (ew_var 0) (aw_cons ew_int aw_nil))) ew_int) aw_nil))) aw_nil)))
      (bw_cons (sw_par (i := 3) (j := 4) rfl scLClamp.nd (aw_cons (ew_call GLDraw (hr.mono (by decide)) DLDraw.m DLDraw.F.kp DLDraw.b (aw_cons (ew_var 0) (aw_cons ew_int aw_nil))) (aw_cons (ew_lst (aw_cons ew_int (aw_cons ew_int (aw_cons (ew_neg ew_int) (aw_cons (ew_bin ow_sub (ew_call GLDraw (hr.mono (by decide)) DLDraw.m DLDraw.F.kp DLDraw.b (aw_cons (ew_var 0) (aw_cons ew_int aw_nil))) ew_int) (aw_cons (ew_bin ow_sub (ew_call GLDraw (hr.mono (by decide)) DLDraw.m DLDraw.F.kp DLDraw.b (aw_cons (ew_var 0) (aw_cons ew_int aw_nil))) ew_int) aw_nil)))))) aw_nil)) (fun ha => ps_par (i := 3) (j := 4) rfl scLClamp.nd rfl rfl (by decide) rfl rfl ha rfl))
      (bw_cons (sw_set (i := 5) scLClamp.nd (ew_call GLPick (hr.mono (by decide)) DLPick.m DLPick.F.kp DLPick.b (aw_cons (ew_var 0) (aw_cons (ew_bin ow_add (ew_var 4) (ew_bin ow_mul (ew_lst (aw_cons (ew_bin ow_pow ew_int ew_int) (aw_cons (ew_bin ow_sub ew_int (ew_bin ow_pow ew_int ew_int)) aw_nil))) (ew_ty b_int T.int (by decide +kernel) (aw_cons (ew_var 1) aw_nil)))) aw_nil))))
      (bw_cons (sw_par (i := 6) (j := 7) rfl scLClamp.nd (aw_cons (ew_if (tw_cmp (ow_in (hu65 hr)) (ew_var 3) (ew_tup (aw_cons ew_int (aw_cons ew_int aw_nil)))) ew_non (ew_ix (ew_var 2) ew_int)) (aw_cons (ew_if (tw_cmp (ow_in (hu65 hr)) (ew_var 3) (ew_tup (aw_cons ew_int (aw_cons ew_int aw_nil)))) ew_non (ew_ix (ew_var 2) ew_int)) aw_nil)) (fun ha => ps_par (i := 6) (j := 7) rfl scLClamp.nd rfl rfl (by decide) rfl rfl ha rfl))
      (bw_one (sw_ret (ew_tup (aw_cons (ew_var 6) (aw_cons (ew_var 5) (aw_cons (ew_if (tw_cmp (ow_eq (hu65 hr)) (ew_var 3) ew_int) (ew_var 6) (ew_var 7)) aw_nil))))))))))) (fun dvs O PQ q => ?_)
  obtain ⟨far, rfl, rfl, k⟩ := q
  refine ⟨rfl, ?_⟩
  refine ⟨rfl, 21, rfl, rfl, by decide, by decide, fun a a0 a1 => ?_⟩
  refine ⟨rfl, 21, rfl, rfl, by decide, by decide, fun b b0 b1 => ?_⟩
  obtain ⟨l, h, hs, hlh, hab⟩ := sortI2 (a - 10) (b - 10)
  refine ⟨rfl, 6, rfl, rfl, by decide, by decide, fun w w0 w1 => ?_⟩
  refine ⟨rfl, 19, rfl, rfl, by decide, by decide, fun s1 s10 s11 => ?_⟩
  refine ⟨rfl, 19, rfl, rfl, by decide, by decide, fun s2 s20 s21 => ?_⟩
  have fin : ∀ s : Int, ((-9 ≤ s ∧ s ≤ 9) ∨ (far = true ∧ (s = 100000000000 ∨ s = -100000000000))) → ∀ (lo hi : Option Int), (lo = none ∨ lo = some l) → (hi = none ∨ hi = some h ∨ hi = lo) → PQ (.d (.tuple (Cl.ds ⟨lo, s, hi⟩))) [.dr] := by
    intro s hs lo hi h1 h2
    refine k _ ⟨?_, ?_, ?_, ?_, ?_, hs⟩
    all_goals
      rcases h1 with rfl | rfl <;> rcases h2 with rfl | rfl | rfl <;> first | (intro x y e1 e2; cases e1 <;> cases e2 <;> omega) | (intro x e; cases e <;> omega)
  have fin2 : ∀ d : PyData, d ∈ [PyData.int 0, .int 1, .int (-1), .int (s1 - 9), .int (s2 - 9)] ++ (if far then [PyData.int (10 ^ 11), .int (0 - 10 ^ 11)] else []) → ∃ s : Int, d = .int s ∧ ((-9 ≤ s ∧ s ≤ 9) ∨ (far = true ∧ (s = 100000000000 ∨ s = -100000000000))) := by
    intro d hd
    cases far with
    | true =>
      simp at hd
      rcases hd with rfl | rfl | rfl | rfl | rfl | rfl | rfl <;> exact ⟨_, rfl, by simp <;> omega⟩
    | false =>
      simp at hd
      rcases hd with rfl | rfl | rfl | rfl | rfl <;> exact ⟨_, rfl, by simp <;> omega⟩
  have pw : CPow 10 11 := ⟨by decide, by decide, by decide⟩
  cases far with
  | true =>
    refine ⟨pw, pw, by simp, .inr rfl, by simp, rfl, _, rfl, rfl, by simp, by simp, fun d hd => ?_⟩
    obtain ⟨s, rfl, hs'⟩ := fin2 d hd
    obtain e | e | e | e | e | e : w = 0 ∨ w = 1 ∨ w = 2 ∨ w = 3 ∨ w = 4 ∨ w = 5 := by omega
    · subst e
      exact ⟨rfl, rfl, ⟨rfl, rfl, fin s hs' none none (.inl rfl) (.inl rfl)⟩⟩
    · subst e
      refine ⟨rfl, rfl, ⟨rfl, rfl, ?_⟩⟩
      conv => whnf
      rw [hs]
      exact fin s hs' none (some h) (.inl rfl) (.inr (.inl rfl))
    · subst e
      refine ⟨rfl, rfl, ?_⟩
      conv => whnf
      rw [hs]
      exact ⟨rfl, rfl, fin s hs' (some l) none (.inr rfl) (.inl rfl)⟩
    all_goals
      subst e
      refine ⟨rfl, rfl, ?_⟩
      conv => whnf
      rw [hs]
      refine ⟨rfl, rfl, ?_⟩
      first | exact fin s hs' (some l) (some h) (.inr rfl) (.inr (.inl rfl)) | exact fin s hs' (some l) (some l) (.inr rfl) (.inr (.inr rfl))
  | false =>
    refine ⟨pw, pw, by simp, .inl rfl, by simp, rfl, _, rfl, rfl, by simp, by simp, fun d hd => ?_⟩
    obtain ⟨s, rfl, hs'⟩ := fin2 d hd
    obtain e | e | e | e | e | e : w = 0 ∨ w = 1 ∨ w = 2 ∨ w = 3 ∨ w = 4 ∨ w = 5 := by omega
    · subst e
      exact ⟨rfl, rfl, ⟨rfl, rfl, fin s hs' none none (.inl rfl) (.inl rfl)⟩⟩
    · subst e
      refine ⟨rfl, rfl, ⟨rfl, rfl, ?_⟩⟩
      conv => whnf
      rw [hs]
      exact fin s hs' none (some h) (.inl rfl) (.inr (.inl rfl))
    · subst e
      refine ⟨rfl, rfl, ?_⟩
      conv => whnf
      rw [hs]
      exact ⟨rfl, rfl, fin s hs' (some l) none (.inr rfl) (.inl rfl)⟩
    all_goals
      subst e
      refine ⟨rfl, rfl, ?_⟩
      conv => whnf
      rw [hs]
      refine ⟨rfl, rfl, ?_⟩
      first | exact fin s hs' (some l) (some h) (.inr rfl) (.inr (.inl rfl)) | exact fin s hs' (some l) (some l) (.inr rfl) (.inr (.inr rfl))
abbrev nmLClamped : List Str := ["_law_clamp_here", "_law_x", "_law_low", "_law_step", "_law_high"]
theorem scLClamped : FnScope nmLClamped ["_law_clamp_here", "_law_x"] (defScope sLClamped) := ⟨rfl, rfl, rfl, by decide +kernel, rfl, by decide +kernel, by decide +kernel⟩
theorem okLClamped {f : Addr} {fd : FuncData} (D : Def K mg "_law_clamped" sLClamped ["_law_clamp_here", "_law_x"] f fd) (T : Txt K mg) :
    FnOk P w K mg base CX0 1 f fd ["_law_clamp_here", "_law_x"] (liftSp K pspClampedL) := by
  refine fnP D.F scLClamped (fun cdv A outer s H E hr R => (bw_cons (sw_asg (ew_var 0) (gw_tup (n := 3) rfl (gsw_cons (gw_name (i := 2) scLClamped.nd) (gsw_cons (gw_name (i := 3) scLClamped.nd) (gsw_cons (gw_name (i := 4) scLClamped.nd) gsw_nil)))))
      (bw_cons (sw_if (tw_ww (ww_and (tw_cmp ow_isNot (ew_var 2) ew_non) (ww_and1 (tw_cmp ow_lt (ew_bin ow_add (ew_var 1) (ew_var 3)) (ew_var 2))))) (bw_one (sw_ret (ew_if (tw_cmp ow_is (ew_var 4) ew_non) (ew_var 2) (ew_blt (b_min2 rfl) T.min (by decide +kernel) (aw_cons (ew_var 2) (aw_cons (ew_var 4) aw_nil)))))) bw_nil)
      (bw_one (sw_ret (ew_if (tw_cmp ow_is (ew_var 4) ew_non) (ew_bin ow_add (ew_var 1) (ew_var 3)) (ew_blt (b_min2 rfl) T.min (by decide +kernel) (aw_cons (ew_bin ow_add (ew_var 1) (ew_var 3)) (aw_cons (ew_var 4) aw_nil))))))))) (fun dvs O PQ q => ?_)
  obtain ⟨⟨lo, s, hi⟩, i, rfl, rfl, ok, k⟩ := q
  refine ⟨rfl, rfl, ?_⟩
  cases lo with
  | none => cases hi with
    | none => exact k
    | some u =>
      have e : (if u < i + s then u else i + s) = Cl.act ⟨none, s, some u⟩ i := by simp only [Cl.act, kwI]
      rw [← e] at k
      exact k
  | some l =>
    show (match decide (i + s < l) with | true => _ | false => _)
    cases hb : decide (i + s < l) with
    | true =>
      have hb' := of_decide_eq_true hb
      cases hi with
      | none =>
        have e : l = Cl.act ⟨some l, s, none⟩ i := by simp only [Cl.act, kwI]; rw [if_pos hb']
        rw [← e] at k
        exact k
      | some u =>
        have := ok l u rfl rfl
        have e : (if u < l then u else l) = Cl.act ⟨some l, s, some u⟩ i := by simp only [Cl.act, kwI]; rw [if_pos hb', if_neg (by omega)]
        rw [← e] at k
        exact k
    | false =>
      have hb' := of_decide_eq_false hb
      cases hi with
      | none =>
        have e : i + s = Cl.act ⟨some l, s, none⟩ i := by simp only [Cl.act, kwI]; rw [if_neg hb']
        rw [← e] at k
        exact k
      | some u =>
        have e : (if u < i + s then u else i + s) = Cl.act ⟨some l, s, some u⟩ i := by simp only [Cl.act, kwI]; rw [if_neg hb']
        rw [← e] at k
        exact k
abbrev nmLIsForm : List Str := ["_law_thing", "_law_part", "_law_low", "_law_step", "_law_high"]
theorem scLIsForm : FnScope nmLIsForm ["_law_thing"] (defScope sLIsForm) := ⟨rfl, rfl, rfl, by decide +kernel, rfl, by decide +kernel, by decide +kernel⟩
theorem okLIsForm {f : Addr} {fd : FuncData} (D : Def K mg "_law_is_form" sLIsForm ["_law_thing"] f fd) (T : Txt K mg) :
    FnOk P w K mg base CX0 1 f fd ["_law_thing"] (liftSp K pspIsForm) := by
  refine fnP D.F scLIsForm (fun cdv A outer s H E hr R => (bw_cons (sw_if (tw_ww (ww_or (tw_not (tw_tru (ew_isi (T := .tuple) (ew_var 0) T.isi T.tuple (by decide +kernel)))) (ww_or1 (tw_cmp (ow_ne (hu65 hr)) (ew_blt b_len T.len PySem.boot_len (aw_cons (ew_var 0) aw_nil)) ew_int)))) (bw_one (sw_ret ew_bl)) bw_nil)
      (bw_cons (sw_if (tw_tru (ew_blt (b_any rfl) T.any (by decide +kernel) (aw_cons (ew_lc (own := [("_law_part", 1)]) rfl scLIsForm.nd (iw_seq (ew_var 0)) (blkOk_by (N := nmLIsForm) (sc := defScope sLIsForm) (by decide +kernel)) (fun _ _ _ _ _ _ => (gc_name (i := 1) (by decide) scLIsForm.nd)) (fun _ _ _ _ _ _ => ifw_nil) (fun _ _ _ _ _ _ => (ew_and (ew_cmp ow_isNot (ew_var 1) ew_non) (ew_one (ew_or (ew_isi (T := .bool) (ew_var 1) T.isi T.bool (by decide +kernel)) (ew_one (ew_not (ew_isi (T := .int) (ew_var 1) T.isi T.int (by decide +kernel))))))))) aw_nil))) (bw_one (sw_ret ew_bl)) bw_nil)
      (bw_cons (sw_asg (ew_var 0) (gw_tup (n := 3) rfl (gsw_cons (gw_name (i := 2) scLIsForm.nd) (gsw_cons (gw_name (i := 3) scLIsForm.nd) (gsw_cons (gw_name (i := 4) scLIsForm.nd) gsw_nil)))))
      (bw_cons (sw_if (tw_ww (ww_or (tw_cmp ow_is (ew_var 3) ew_non) (ww_or1 (tw_ww (ww_and (tw_cmp ow_isNot (ew_var 2) ew_non) (ww_and (tw_cmp ow_isNot (ew_var 4) ew_non) (ww_and1 (tw_cmp ow_gt (ew_var 2) (ew_var 4))))))))) (bw_one (sw_ret ew_bl)) bw_nil)
      (bw_one (sw_ret (ew_or (ew_cmp ow_is (ew_var 2) ew_non) (ew_or (ew_cmp (ow_ne (hu65 hr)) (ew_var 2) (ew_var 4)) (ew_one (ew_cmp (ow_eq (hu65 hr)) (ew_var 3) ew_int))))))))))) (fun dvs O PQ q => ?_)
  obtain ⟨⟨lo, s, hi⟩, rfl, rfl, ⟨ok, fm⟩, k⟩ := q
  refine ⟨rfl, ?_⟩
  have lc : ∀ {Q : List PyData → List Ob → Prop} {Γ : PEnv}, Γ = [some (.d (.tuple (Cl.ds ⟨lo, s, hi⟩))), none, none, none, none] → Q [.bool false, .bool false, .bool false] [] →
      qLcGo (fun _ => True) (qgName 1) qYes (qAndV (qBin (opIs true) (qVar 1) (qC .none)) (qOrV (qIsi [.bool] (qVar 1)) (qNotV (qIsi [.int] (qVar 1))))) Q [.d (endD lo), .d (.int s), .d (endD hi)] [] Γ [] := by
    intro Q Γ hΓ hq
    subst hΓ
    refine lc_map (fun _ => .bool false) trivial _ _ (fun d hd Q' q' => ?_) hq
    have : d = .d (endD lo) ∨ d = .d (.int s) ∨ d = .d (endD hi) := by simpa using hd
    cases lo <;> cases hi <;> rcases this with rfl | rfl | rfl <;> exact q'
  refine ⟨by show 3 ≤ 100000; decide, ?_⟩
  refine lc rfl ?_
  cases lo with
  | none => cases hi with
    | none => exact ⟨rfl, k⟩
    | some u => exact ⟨rfl, k⟩
  | some l => cases hi with
    | none => exact ⟨rfl, k⟩
    | some u =>
      refine ⟨rfl, ?_⟩
      have h1 := ok l u rfl rfl
      show (match decide (u < l) with | true => _ | false => _)
      rw [decide_eq_false (by omega)]
      show (match (!(l == u)) with | true => _ | false => _)
      by_cases h : l = u
      · subst h
        rw [beq_self_eq_true]
        have : s = 0 := fm l rfl rfl
        subst this
        exact k
      · rw [beq_eq_false_iff_ne.mpr h]
        exact k
end
end PW

namespace PW
open PySem PySem.Spec PyProof.Rows L2
section
variable {P : Program} {w : World} {K : PySem.W.Frag} {mg : Str → Option Value} {base : Heap}

/-! ### what repr asks of the clamps that are passed -/
structure Short (B : Nat) (d : PyData) : Prop where
  l : d.leavesShort 13 = true
  b : d.bulk ≤ B
  s : d.showable = true
  h : d.hasDict = false
theorem short_int {B : Nat} {l : Int} (h : l.natAbs < 10 ^ 12) : Short B (.int l) := by
  refine ⟨?_, Nat.zero_le _, ?_, rfl⟩
  · show decide ((PyData.int l).shown.length ≤ 13) = true
    exact decide_eq_true (PyData.shown_int_le h)
  · show decide (l.natAbs.log2 < 1920) = true
    refine decide_eq_true ?_
    by_cases z : l.natAbs = 0
    · rw [z]; decide
    · exact (Nat.log2_lt z).mpr (Nat.lt_trans h (by decide +kernel))
theorem short_end {o : Option Int} {B : Nat} (h : ∀ l, o = some l → l.natAbs < 10 ^ 12) : Short B (endD o) := by
  cases o with
  | none => exact ⟨rfl, Nat.zero_le _, rfl, rfl⟩
  | some l => exact short_int (h l rfl)
theorem short_cl {x : PyData} {c : Cl} (h : IsCl x c) (hc : DrawnC true c) : Short 3 x ∧ x.depth ≤ 1 := by
  have a1 : Short 0 (endD c.lo) := short_end fun l e => by have := hc.l1 l e; have := hc.l2 l e; omega
  have a2 : Short 0 (endD c.hi) := short_end fun l e => by have := hc.u1 l e; have := hc.u2 l e; omega
  have a3 : Short 0 (.int c.s) := short_end (o := some c.s) fun l e => by cases e; rcases hc.s with h | ⟨_, h | h⟩ <;> omega
  have d1 : (endD c.lo).depth = 0 := by cases c.lo <;> rfl
  have d2 : (endD c.hi).depth = 0 := by cases c.hi <;> rfl
  have l1 := a1.l; have l2 := a2.l; have l3 := a3.l
  have s1 := a1.s; have s2 := a2.s; have s3 := a3.s
  have h1 := a1.h; have h2 := a2.h; have h3 := a3.h
  have b1 := a1.b; have b2 := a2.b; have b3 := a3.b
  rcases h.1 with rfl | rfl
  all_goals
    refine ⟨⟨?_, ?_, ?_, ?_⟩, ?_⟩
    · show (PyData.leavesShort 13 (endD c.lo) && (PyData.leavesShort 13 (.int c.s) && (PyData.leavesShort 13 (endD c.hi) && true))) = true; rw [l1, l2, l3]; rfl
    · simp only [PyData.bulk, PyData.bulkAll, Cl.ds]; omega
    · show ((endD c.lo).showable && ((PyData.int c.s).showable && ((endD c.hi).showable && true))) = true; rw [s1, s2, s3]; rfl
    · simp only [PyData.hasDict, PyData.hasDictAll, Cl.ds]; rw [h1, h2]; rfl
    · simp only [PyData.depth, PyData.depthAll, Cl.ds, d1, d2]; simp
theorem short_list {xs : List PyData} {B : Nat} (h : ∀ x ∈ xs, Short B x ∧ x.depth ≤ 1) : PyData.leavesShortAll 13 xs = true ∧ PyData.bulkAll xs ≤ (B + 1) * xs.length ∧ PyData.showableAll xs = true ∧ PyData.hasDictAll xs = false ∧ PyData.depthAll xs ≤ 1 := by
  induction xs with
  | nil => exact ⟨rfl, Nat.zero_le _, rfl, rfl, Nat.zero_le _⟩
  | cons x xs ih =>
    obtain ⟨a, b⟩ := h x List.mem_cons_self
    obtain ⟨h1, h2, h3, h4, h5⟩ := ih fun y hy => h y (List.mem_cons_of_mem _ hy)
    have := a.b
    refine ⟨?_, ?_, ?_, ?_, ?_⟩
    · simp only [PyData.leavesShortAll]; rw [a.l, h1]; rfl
    · simp only [PyData.bulkAll, List.length_cons, Nat.mul_add]; omega
    · simp only [PyData.showableAll]; rw [a.s, h3]; rfl
    · simp only [PyData.hasDictAll]; rw [a.h, h4]; rfl
    · simp only [PyData.depthAll]; omega
theorem paired_mem {α β : Type} {R : α → β → Prop} {xs : List α} {ys : List β} (h : Paired R xs ys) : ∀ {x : α}, x ∈ xs → ∃ y ∈ ys, R x y := by
  induction h with
  | nil => intro x hx; cases hx
  | cons a _ ih =>
    intro x hx
    rcases List.mem_cons.mp hx with rfl | hx
    · exact ⟨_, List.mem_cons_self, a⟩
    · obtain ⟨y, h1, h2⟩ := ih hx
      exact ⟨y, List.mem_cons_of_mem _ h1, h2⟩
theorem repr_passed {ps : List PyData} {cs : List Cl} (h : Paired IsCl ps cs) (hc : ∀ c ∈ cs, DrawnC true c) (hl : cs.length ≤ 6) :
    isDisp (.list ps) = true ∧ (PyData.list ps).leavesShort 13 = true ∧ (PyData.list ps).bulk ≤ 1048576 ∧ (PyData.list ps).depth ≤ 60 ∧ (PyData.list ps).showable = true ∧ (PyData.list ps).hasDict = false := by
  have hp : ∀ x ∈ ps, Short 3 x ∧ x.depth ≤ 1 := by
    intro x hx
    obtain ⟨c, h1, h2⟩ := paired_mem h hx
    exact short_cl h2 (hc c h1)
  have hn : ps.length ≤ 6 := by rw [h.length]; exact hl
  obtain ⟨h1, h2, h3, h4, h5⟩ := short_list hp
  refine ⟨rfl, ?_, ?_, ?_, ?_, ?_⟩
  · simp only [PyData.leavesShort]; exact h1
  · simp only [PyData.bulk]; omega
  · simp only [PyData.depth]; omega
  · simp only [PyData.showable]; exact h3
  · simp only [PyData.hasDict]; exact h4
theorem kw_iff {c : Cl} {x n : Int} (ok : c.ok) (h : kwI x c.lo c.hi = x) : c.act n = x ↔ (c.lo = some x ∨ x - c.s ≤ n) ∧ (c.hi = some x ∨ n ≤ x - c.s) := by
  obtain ⟨lo, s, hi⟩ := c
  have o : ∀ l u, lo = some l → hi = some u → l ≤ u := fun l u => ok l u
  simp only [Cl.act, kwI] at h ⊢
  cases lo with
  | none => cases hi with
    | none => simp; omega
    | some u => simp only [Option.some.injEq] at h ⊢; (repeat' split) <;> simp <;> (try split at h) <;> omega
  | some l => cases hi with
    | none => simp only [Option.some.injEq] at h ⊢; (repeat' split) <;> simp <;> (try split at h) <;> omega
    | some u =>
      have := o l u rfl rfl
      simp only [Option.some.injEq] at h ⊢
      grind
theorem kw_idem {c : Cl} {x n : Int} (ok : c.ok) (h : c.act n = x) : kwI x c.lo c.hi = x := by
  obtain ⟨lo, s, hi⟩ := c
  have o : ∀ l u, lo = some l → hi = some u → l ≤ u := fun l u => ok l u
  simp only [Cl.act, kwI] at h ⊢
  cases lo with
  | none => cases hi with
    | none => rfl
    | some u => simp only at h ⊢; grind
  | some l => cases hi with
    | none => simp only at h ⊢; grind
    | some u =>
      have := o l u rfl rfl
      simp only at h ⊢
      grind
/-! ### the ends of what the clamps make -/
theorem ends_shown {c : Cl} {x y : Int} (ok : c.ok) (h : c.act x = y) : ∃ a b : Option Int, shownC c y = some (a, b) ∧ (∀ n, a = some n → n ≤ x ∧ c.act n = y ∧ c.act (n + -1) ≠ y) ∧ (∀ n, b = some n → x ≤ n ∧ c.act n = y ∧ c.act (n + 1) ≠ y) := by
  have hk := kw_idem ok h
  have hx := (kw_iff (n := x) ok hk).mp h
  refine ⟨_, _, by unfold shownC; rw [if_pos hk], fun n e => ?_, fun n e => ?_⟩
  · split at e
    · cases e
    · rename_i hn
      cases e
      refine ⟨?_, (kw_iff ok hk).mpr ⟨.inr (Int.le_refl _), .inr (Int.le_refl _)⟩, fun z => ?_⟩
      · rcases hx.1 with q | q
        · exact absurd q hn
        · exact q
      · rcases ((kw_iff ok hk).mp z).1 with q | q
        · exact absurd q hn
        · omega
  · split at e
    · cases e
    · rename_i hn
      cases e
      refine ⟨?_, (kw_iff ok hk).mpr ⟨.inr (Int.le_refl _), .inr (Int.le_refl _)⟩, fun z => ?_⟩
      · rcases hx.2 with q | q
        · exact absurd q hn
        · exact q
      · rcases ((kw_iff ok hk).mp z).2 with q | q
        · exact absurd q hn
        · omega
theorem paired_snoc {α β : Type} {R : α → β → Prop} {xs : List α} {ys : List β} {x : α} {y : β} (h : Paired R xs ys) (q : R x y) : Paired R (xs ++ [x]) (ys ++ [y]) := by
  induction h with
  | nil => exact .cons q .nil
  | cons a _ ih => exact .cons a ih
theorem rgD_int {a : Int} {n : Nat} {d : PyData} (h : d ∈ rgD a n) : ∃ k : Int, d = .int k ∧ a ≤ k := by
  unfold rgD at h
  obtain ⟨i, _, rfl⟩ := List.mem_map.mp h
  exact ⟨_, rfl, by omega⟩
end
end PW

namespace PW
open PySem PySem.Spec PyProof.Rows L2
section
variable {P : Program} {w : World} {K : PySem.W.Frag} {mg : Str → Option Value} {base : Heap}

theorem endStep {PD : PEnds} {ψ0 : Hp → L2.V → Prop} {c : Cl} {x y e s : Int} {s1 s2 s3 s4 s5 s6 s7 s9 s11 s12 : Option DV} (ok : c.ok) (h1 : c.act e = y) (h2 : c.act (e + s) ≠ y) (k : PD.nx [some (.x ψ0), s1, s2, s3, s4, s5, s6, s7, some (.d (.tuple c.ds)), s9, some (.d (.int y)), s11, s12, some (.d (.int e)), some (.d (.int s))] [.dr]) :
    ((qSeq (qIfS (qAndT (qB (qBin (opIs true) (qVar 13) (qC PyData.none))) (qB (qBin opNe (qCall pspClamped (qCons (qVar 8) (qCons (qVar 13) qNil))) (qVar 10)))) (qRet (qC (PyData.bool false))) qNext) (qIfS (qAndT (qB (qBin (opIs true) (qVar 13) (qC PyData.none))) (qB (qBin opEq (qCall pspClamped (qCons (qVar 8) (qCons (qBin opAdd (qVar 13) (qVar 14)) qNil))) (qVar 10)))) (qRet (qC (PyData.bool false))) qNext))) PD [some (.x ψ0), s1, s2, s3, s4, s5, s6, s7, some (.d (.tuple c.ds)), s9, some (.d (.int y)), s11, s12, some (.d (.int e)), some (.d (.int s))] [.dr] := by
  refine ⟨rfl, .tuple c.ds, c, e, rfl, rfl, ⟨.inr rfl, ok⟩, ?_⟩
  rw [h1]
  show (match (!(y == y)) with | true => _ | false => _)
  rw [beq_self_eq_true]
  refine ⟨rfl, .tuple c.ds, c, e + s, rfl, rfl, ⟨.inr rfl, ok⟩, ?_⟩
  show (match (c.act (e + s) == y) with | true => _ | false => _)
  rw [beq_eq_false_iff_ne.mpr h2]
  exact k
theorem endNone {PD : PEnds} {ψ0 : Hp → L2.V → Prop} {c : Cl} {y s : Int} {s1 s2 s3 s4 s5 s6 s7 s9 s11 s12 : Option DV} (k : PD.nx [some (.x ψ0), s1, s2, s3, s4, s5, s6, s7, some (.d (.tuple c.ds)), s9, some (.d (.int y)), s11, s12, some (.d .none), some (.d (.int s))] [.dr]) :
    ((qSeq (qIfS (qAndT (qB (qBin (opIs true) (qVar 13) (qC PyData.none))) (qB (qBin opNe (qCall pspClamped (qCons (qVar 8) (qCons (qVar 13) qNil))) (qVar 10)))) (qRet (qC (PyData.bool false))) qNext) (qIfS (qAndT (qB (qBin (opIs true) (qVar 13) (qC PyData.none))) (qB (qBin opEq (qCall pspClamped (qCons (qVar 8) (qCons (qBin opAdd (qVar 13) (qVar 14)) qNil))) (qVar 10)))) (qRet (qC (PyData.bool false))) qNext))) PD [some (.x ψ0), s1, s2, s3, s4, s5, s6, s7, some (.d (.tuple c.ds)), s9, some (.d (.int y)), s11, s12, some (.d .none), some (.d (.int s))] [.dr] := k
theorem tailE {PD : PEnds} {ψ0 : Hp → L2.V → Prop} {c : Cl} {x y : Int} {d1 d3 d5 d7 : PyData} {s4 s6 s11 s12 s13 s14 : Option DV} (ok : c.ok) (h : c.act x = y)
    (k : ∀ w4 w6 w11 w12 w13 w14, PD.nx [some (.x ψ0), some (.d d1), some (.o 0), some (.d d3), w4, some (.d d5), w6, some (.d d7), some (.d (.tuple c.ds)), some (.d (.int x)), some (.d (.int y)), w11, w12, w13, w14] [.dr]) :
    (qSeq (qIfS (qNotT (qTru (qCall (pspSame 5) (qCons (qCall pspClamped (qCons (qVar 8) (qCons (qVar 9) qNil))) (qCons (qVar 10) qNil))))) (qRet (qC (PyData.bool false))) qNext) (qSeq (qSet 12 (qCall pspShown (qCons (qVar 8) (qCons (qVar 10) qNil)))) (qSeq (qIfS (qOrT (qNotT (qOrT (qB (qBin (opIs false) (qBin opIx (qVar 12) (qC (PyData.int 0))) (qC PyData.none))) (qB (qBin opLe (qBin opIx (qVar 12) (qC (PyData.int 0))) (qVar 9))))) (qNotT (qOrT (qB (qBin (opIs false) (qBin opIx (qVar 12) (qC (PyData.int 1))) (qC PyData.none))) (qB (qBin opLe (qVar 9) (qBin opIx (qVar 12) (qC (PyData.int 1)))))))) (qRet (qC (PyData.bool false))) qNext) (qForW (qiSeq (qTup (qCons (qTup (qCons (qBin opIx (qVar 12) (qC (PyData.int 0))) (qCons (qNeg (qC (PyData.int 1))) qNil))) (qCons (qTup (qCons (qBin opIx (qVar 12) (qC (PyData.int 1))) (qCons (qC (PyData.int 1)) qNil))) qNil)))) (qgTup 2 (qgCons (qgName 13) (qgCons (qgName 14) qgNil))) (qSeq (qIfS (qAndT (qB (qBin (opIs true) (qVar 13) (qC PyData.none))) (qB (qBin opNe (qCall pspClamped (qCons (qVar 8) (qCons (qVar 13) qNil))) (qVar 10)))) (qRet (qC (PyData.bool false))) qNext) (qIfS (qAndT (qB (qBin (opIs true) (qVar 13) (qC PyData.none))) (qB (qBin opEq (qCall pspClamped (qCons (qVar 8) (qCons (qBin opAdd (qVar 13) (qVar 14)) qNil))) (qVar 10)))) (qRet (qC (PyData.bool false))) qNext)))))) PD [some (.x ψ0), some (.d d1), some (.o 0), some (.d d3), s4, some (.d d5), s6, some (.d d7), some (.d (.tuple c.ds)), some (.d (.int x)), some (.d (.int y)), s11, s12, s13, s14] [.dr] := by
  refine ⟨rfl, .tuple c.ds, c, x, rfl, rfl, ⟨.inr rfl, ok⟩, ?_⟩
  refine ⟨rfl, _, _, rfl, rfl, by simp [dep], by simp [wd], ?_⟩
  rw [h, sm_refl rfl]
  refine ⟨rfl, .tuple c.ds, c, y, rfl, rfl, ⟨.inr rfl, ok⟩, ?_⟩
  obtain ⟨a, b, hs, ha, hb⟩ := ends_shown ok h
  rw [hs]
  have two : ∀ {u v : PyData}, (u = endD a) → (v = endD b) → qForW (fun _ O Q => Q ⟨[.d (.tuple [u, .int (-1)]), .d (.tuple [v, .int 1])], fun _ => True⟩ O) (qgTup 2 (qgCons (qgName 13) (qgCons (qgName 14) qgNil))) ((qSeq (qIfS (qAndT (qB (qBin (opIs true) (qVar 13) (qC PyData.none))) (qB (qBin opNe (qCall pspClamped (qCons (qVar 8) (qCons (qVar 13) qNil))) (qVar 10)))) (qRet (qC (PyData.bool false))) qNext) (qIfS (qAndT (qB (qBin (opIs true) (qVar 13) (qC PyData.none))) (qB (qBin opEq (qCall pspClamped (qCons (qVar 8) (qCons (qBin opAdd (qVar 13) (qVar 14)) qNil))) (qVar 10)))) (qRet (qC (PyData.bool false))) qNext))) PD [some (.x ψ0), some (.d d1), some (.o 0), some (.d d3), s4, some (.d d5), s6, some (.d d7), some (.d (.tuple c.ds)), some (.d (.int x)), some (.d (.int y)), s11, some (.d (.tuple [endD a, endD b])), s13, s14] [.dr] := by
    intro u v hu hv
    subst hu hv
    refine ⟨trivial, rfl, ?_⟩
    have sec : ∀ (PD2 : PEnds) (s4 s6 s11 : Option DV), (∀ w13 w14, PD2.nx [some (.x ψ0), some (.d d1), some (.o 0), some (.d d3), s4, some (.d d5), s6, some (.d d7), some (.d (.tuple c.ds)), some (.d (.int x)), some (.d (.int y)), s11, some (.d (.tuple [endD a, endD b])), w13, w14] [.dr]) → ((qSeq (qIfS (qAndT (qB (qBin (opIs true) (qVar 13) (qC PyData.none))) (qB (qBin opNe (qCall pspClamped (qCons (qVar 8) (qCons (qVar 13) qNil))) (qVar 10)))) (qRet (qC (PyData.bool false))) qNext) (qIfS (qAndT (qB (qBin (opIs true) (qVar 13) (qC PyData.none))) (qB (qBin opEq (qCall pspClamped (qCons (qVar 8) (qCons (qBin opAdd (qVar 13) (qVar 14)) qNil))) (qVar 10)))) (qRet (qC (PyData.bool false))) qNext))) PD2 [some (.x ψ0), some (.d d1), some (.o 0), some (.d d3), s4, some (.d d5), s6, some (.d d7), some (.d (.tuple c.ds)), some (.d (.int x)), some (.d (.int y)), s11, some (.d (.tuple [endD a, endD b])), some (.d (endD b)), some (.d (.int 1))] [.dr] := by
      intro PD2 s4 s6 s11 k2
      cases b with
      | none => exact endNone (k2 _ _)
      | some n => exact endStep (x := x) ok (hb n rfl).2.1 (hb n rfl).2.2 (k2 _ _)
    cases a with
    | none => exact endNone ⟨trivial, rfl, sec _ _ _ _ fun w13 w14 => ⟨trivial, k _ _ _ _ _ _⟩⟩
    | some n => exact endStep (x := x) ok (ha n rfl).2.1 (ha n rfl).2.2 ⟨trivial, rfl, sec _ _ _ _ fun w13 w14 => ⟨trivial, k _ _ _ _ _ _⟩⟩
  cases a with
  | none => cases b with
    | none => exact two rfl rfl
    | some n =>
      show (match (!decide (x ≤ n)) with | true => _ | false => _)
      rw [decide_eq_true (hb n rfl).1]
      exact two rfl rfl
  | some m =>
    show (match (!decide (m ≤ x)) with | true => _ | false => _)
    rw [decide_eq_true (ha m rfl).1]
    cases b with
    | none => exact two rfl rfl
    | some n =>
      show (match (!decide (x ≤ n)) with | true => _ | false => _)
      rw [decide_eq_true (hb n rfl).1]
      exact two rfl rfl
theorem tailX {PD : PEnds} {ψ0 : Hp → L2.V → Prop} {cs : List Cl} {ps : List PyData} {x : Int} {d1 d7 : PyData} {s4 s6 s11 s12 s13 s14 : Option DV} (hok : ∀ c ∈ cs, c.ok) (hp : Paired IsCl ps cs)
    (k : ∀ w4 w6 w10 w11 w12 w13 w14, PD.nx [some (.x ψ0), some (.d d1), some (.o 0), some (.d (.list (cs.map fun c => .tuple c.ds))), w4, some (.d (.list ps)), w6, some (.d d7), some (.d (.tuple (joinC cs).ds)), some (.d (.int x)), w10, w11, w12, w13, w14] [.dr]) :
    (qSeq (qForW (qiZip (qCons (qVar 3) (qCons (qVar 5) qNil))) (qgTup 2 (qgCons (qgName 6) (qgCons (qgName 11) qgNil))) (qSeq (qIfS (qNotT (qTru (qCall (pspSame 5) (qCons (qCall pspClamped (qCons (qVar 11) (qCons (qVar 10) qNil))) (qCons (qCall pspClampedL (qCons (qVar 6) (qCons (qVar 10) qNil))) qNil))))) (qRet (qC (PyData.bool false))) qNext) (qSet 10 (qCall pspClampedL (qCons (qVar 6) (qCons (qVar 10) qNil)))))) (qSeq (qIfS (qNotT (qTru (qCall (pspSame 5) (qCons (qCall pspClamped (qCons (qVar 8) (qCons (qVar 9) qNil))) (qCons (qVar 10) qNil))))) (qRet (qC (PyData.bool false))) qNext) (qSeq (qSet 12 (qCall pspShown (qCons (qVar 8) (qCons (qVar 10) qNil)))) (qSeq (qIfS (qOrT (qNotT (qOrT (qB (qBin (opIs false) (qBin opIx (qVar 12) (qC (PyData.int 0))) (qC PyData.none))) (qB (qBin opLe (qBin opIx (qVar 12) (qC (PyData.int 0))) (qVar 9))))) (qNotT (qOrT (qB (qBin (opIs false) (qBin opIx (qVar 12) (qC (PyData.int 1))) (qC PyData.none))) (qB (qBin opLe (qVar 9) (qBin opIx (qVar 12) (qC (PyData.int 1)))))))) (qRet (qC (PyData.bool false))) qNext) (qForW (qiSeq (qTup (qCons (qTup (qCons (qBin opIx (qVar 12) (qC (PyData.int 0))) (qCons (qNeg (qC (PyData.int 1))) qNil))) (qCons (qTup (qCons (qBin opIx (qVar 12) (qC (PyData.int 1))) (qCons (qC (PyData.int 1)) qNil))) qNil)))) (qgTup 2 (qgCons (qgName 13) (qgCons (qgName 14) qgNil))) (qSeq (qIfS (qAndT (qB (qBin (opIs true) (qVar 13) (qC PyData.none))) (qB (qBin opNe (qCall pspClamped (qCons (qVar 8) (qCons (qVar 13) qNil))) (qVar 10)))) (qRet (qC (PyData.bool false))) qNext) (qIfS (qAndT (qB (qBin (opIs true) (qVar 13) (qC PyData.none))) (qB (qBin opEq (qCall pspClamped (qCons (qVar 8) (qCons (qBin opAdd (qVar 13) (qVar 14)) qNil))) (qVar 10)))) (qRet (qC (PyData.bool false))) qNext))))))) PD [some (.x ψ0), some (.d d1), some (.o 0), some (.d (.list (cs.map fun c => .tuple c.ds))), s4, some (.d (.list ps)), s6, some (.d d7), some (.d (.tuple (joinC cs).ds)), some (.d (.int x)), some (.d (.int x)), s11, s12, s13, s14] [.dr] := by
  refine loopW_ind (fun ds Γ O => (∃ (c2 : List Cl) (p2 : List PyData) (y : Int) (v4 v6 v11 v12 v13 v14 : Option DV), ds = zipD (c2.map fun c => .tuple c.ds) p2 ∧ (∀ c ∈ c2, c.ok) ∧ Paired IsCl p2 c2 ∧ actL c2 y = actL cs x ∧ Γ = [some (.x ψ0), some (.d d1), some (.o 0), some (.d (.list (cs.map fun c => .tuple c.ds))), v4, some (.d (.list ps)), v6, some (.d d7), some (.d (.tuple (joinC cs).ds)), some (.d (.int x)), some (.d (.int y)), v11, v12, v13, v14]) ∧ O = [.dr])
    (fun Γ O j => ?_) (fun d ds Γ O j ih => ?_) _ _ _ ⟨⟨cs, ps, x, s4, s6, s11, s12, s13, s14, rfl, hok, hp, rfl, rfl⟩, rfl⟩
  · obtain ⟨⟨c2, p2, y, v4, v6, v11, v12, v13, v14, h1, h2, h3, h4, rfl⟩, rfl⟩ := j
    have : c2 = [] := by
      cases h3 with
      | nil => rfl
      | cons _ _ => cases h1
    subst this
    refine ⟨⟨trivial, trivial⟩, tailE (join_form hok).1 (by rw [join_act hok]; exact h4.symm) fun w4 w6 w11 w12 w13 w14 => k _ _ _ _ _ _ _⟩
  · obtain ⟨⟨c2, p2, y, v4, v6, v11, v12, v13, v14, h1, h2, h3, h4, rfl⟩, rfl⟩ := j
    cases h3 with
    | nil => cases h1
    | cons q1 q2 =>
      rename_i pa ca pr cr
      cases h1
      refine ⟨⟨trivial, trivial⟩, rfl, ?_⟩
      have okc := h2 ca List.mem_cons_self
      refine ⟨rfl, pa, ca, y, rfl, rfl, q1, ?_⟩
      refine ⟨rfl, ca, y, rfl, rfl, okc, ?_⟩
      refine ⟨rfl, _, _, rfl, rfl, by simp [dep], by simp [wd], ?_⟩
      rw [sm_refl rfl]
      refine ⟨rfl, ca, y, rfl, rfl, okc, ?_⟩
      exact ih _ _ ⟨⟨cr, pr, ca.act y, _, _, _, _, _, _, rfl, fun c hc => h2 c (List.mem_cons_of_mem _ hc), q2, h4, rfl⟩, rfl⟩
theorem law60_tail {PD : PEnds} {ψ0 : Hp → L2.V → Prop} {cs : List Cl} {ps : List PyData} {i : Int} {s4 s6 s7 s8 s9 s10 s11 s12 s13 s14 : Option DV} (hcs : ∀ c ∈ cs, DrawnC true c) (hl : cs.length ≤ 6) (hp : Paired IsCl ps cs)
    (k : ∀ w4 w6 w7 w8 w9 w10 w11 w12 w13 w14, PD.nx [some (.x ψ0), some (.d (.int i)), some (.o 0), some (.d (.list (cs.map fun c => .tuple c.ds))), w4, some (.d (.list ps)), w6, w7, w8, w9, w10, w11, w12, w13, w14] [.dr]) :
    (qSeq (qSet 7 (qRepr (qVar 5))) (qSeq (qSet 8 (qCall pspJoined2 (qCons (qCall pspPick (qCons (qVar 2) (qCons (qLst (qCons (qVar 5) (qCons (qBlt oTuple (qCons (qVar 5) qNil)) qNil))) qNil))) qNil))) (qSeq (qIfS (qOrT (qNotT (qTru (qCall pspIsForm (qCons (qVar 8) qNil)))) (qB (qBin opNe (qRepr (qVar 5)) (qVar 7)))) (qRet (qC (PyData.bool false))) qNext) (qForW (qiSeq (qBin opAdd (qListRg2 (qNeg (qC (PyData.int 40))) (qC (PyData.int 41))) (qLst (qCons (qBin opPow (qC (PyData.int 10)) (qC (PyData.int 11))) (qCons (qBin opSub (qC (PyData.int 0)) (qBin opPow (qC (PyData.int 10)) (qC (PyData.int 11)))) (qCons (qBin opAdd (qBin opPow (qC (PyData.int 10)) (qC (PyData.int 11))) (qC (PyData.int 3))) (qCons (qBin opSub (qC (PyData.int 3)) (qBin opPow (qC (PyData.int 10)) (qC (PyData.int 11)))) qNil))))))) (qgName 9) (qSeq (qSet 10 (qVar 9)) (qSeq (qForW (qiZip (qCons (qVar 3) (qCons (qVar 5) qNil))) (qgTup 2 (qgCons (qgName 6) (qgCons (qgName 11) qgNil))) (qSeq (qIfS (qNotT (qTru (qCall (pspSame 5) (qCons (qCall pspClamped (qCons (qVar 11) (qCons (qVar 10) qNil))) (qCons (qCall pspClampedL (qCons (qVar 6) (qCons (qVar 10) qNil))) qNil))))) (qRet (qC (PyData.bool false))) qNext) (qSet 10 (qCall pspClampedL (qCons (qVar 6) (qCons (qVar 10) qNil)))))) (qSeq (qIfS (qNotT (qTru (qCall (pspSame 5) (qCons (qCall pspClamped (qCons (qVar 8) (qCons (qVar 9) qNil))) (qCons (qVar 10) qNil))))) (qRet (qC (PyData.bool false))) qNext) (qSeq (qSet 12 (qCall pspShown (qCons (qVar 8) (qCons (qVar 10) qNil)))) (qSeq (qIfS (qOrT (qNotT (qOrT (qB (qBin (opIs false) (qBin opIx (qVar 12) (qC (PyData.int 0))) (qC PyData.none))) (qB (qBin opLe (qBin opIx (qVar 12) (qC (PyData.int 0))) (qVar 9))))) (qNotT (qOrT (qB (qBin (opIs false) (qBin opIx (qVar 12) (qC (PyData.int 1))) (qC PyData.none))) (qB (qBin opLe (qVar 9) (qBin opIx (qVar 12) (qC (PyData.int 1)))))))) (qRet (qC (PyData.bool false))) qNext) (qForW (qiSeq (qTup (qCons (qTup (qCons (qBin opIx (qVar 12) (qC (PyData.int 0))) (qCons (qNeg (qC (PyData.int 1))) qNil))) (qCons (qTup (qCons (qBin opIx (qVar 12) (qC (PyData.int 1))) (qCons (qC (PyData.int 1)) qNil))) qNil)))) (qgTup 2 (qgCons (qgName 13) (qgCons (qgName 14) qgNil))) (qSeq (qIfS (qAndT (qB (qBin (opIs true) (qVar 13) (qC PyData.none))) (qB (qBin opNe (qCall pspClamped (qCons (qVar 8) (qCons (qVar 13) qNil))) (qVar 10)))) (qRet (qC (PyData.bool false))) qNext) (qIfS (qAndT (qB (qBin (opIs true) (qVar 13) (qC PyData.none))) (qB (qBin opEq (qCall pspClamped (qCons (qVar 8) (qCons (qBin opAdd (qVar 13) (qVar 14)) qNil))) (qVar 10)))) (qRet (qC (PyData.bool false))) qNext)))))))))))) PD [some (.x ψ0), some (.d (.int i)), some (.o 0), some (.d (.list (cs.map fun c => .tuple c.ds))), s4, some (.d (.list ps)), s6, s7, s8, s9, s10, s11, s12, s13, s14] [.dr] := by
  have hok : ∀ c ∈ cs, c.ok := fun c hc => (hcs c hc).ok
  have hr := repr_passed hp hcs hl
  have pw : CPow 10 11 := ⟨by decide, by decide, by decide⟩
  refine ⟨hr, ?_⟩
  refine ⟨rfl, _, rfl, rfl, by simp, by simp, fun d hd => ?_⟩
  have hd' : d = .list ps ∨ d = .tuple ps := by simpa using hd
  refine ⟨rfl, d, ps, cs, rfl, rfl, hd', hp, ?_⟩
  refine ⟨rfl, joinC cs, rfl, rfl, join_form hok, ?_⟩
  refine ⟨hr, ?_⟩
  show (match (!((PyData.list ps).shown == (PyData.list ps).shown)) with | true => _ | false => _)
  rw [beq_self_eq_true]
  refine ⟨⟨by decide, by decide, by decide, by decide⟩, pw, pw, pw, pw, ?_⟩
  refine ⟨by simp [rgD], ?_⟩
  have hmem : ∀ d ∈ (rgD (-40) (41 - -40).toNat ++ [PyData.int (10 ^ Int.toNat 11), PyData.int (0 - 10 ^ Int.toNat 11), PyData.int (10 ^ Int.toNat 11 + 3), PyData.int (3 - 10 ^ Int.toNat 11)]).map DV.d, ∃ x : Int, d = .d (.int x) := by
    intro d hd
    obtain ⟨z, hz, rfl⟩ := List.mem_map.mp hd
    rcases List.mem_append.mp hz with hz | hz
    · obtain ⟨n, rfl, _⟩ := rgD_int hz
      exact ⟨n, rfl⟩
    · simp only [List.mem_cons, List.not_mem_nil, or_false] at hz
      rcases hz with rfl | rfl | rfl | rfl <;> exact ⟨_, rfl⟩
  refine loopW_ind (fun ds Γ O => (∀ d ∈ ds, ∃ x : Int, d = .d (.int x)) ∧ (∃ v4 v6 v9 v10 v11 v12 v13 v14, Γ = [some (.x ψ0), some (.d (.int i)), some (.o 0), some (.d (.list (cs.map fun c => .tuple c.ds))), v4, some (.d (.list ps)), v6, some (.d (.str (PyData.list ps).shown)), some (.d (.tuple (joinC cs).ds)), v9, v10, v11, v12, v13, v14]) ∧ O = [.dr])
    (fun Γ O j => ?_) (fun d ds Γ O j ih => ?_) _ _ _ ⟨hmem, ⟨s4, s6, s9, s10, s11, s12, s13, s14, rfl⟩, rfl⟩
  · obtain ⟨_, ⟨v4, v6, v9, v10, v11, v12, v13, v14, rfl⟩, rfl⟩ := j
    exact ⟨trivial, k _ _ _ _ _ _ _ _ _ _⟩
  · obtain ⟨hds, ⟨v4, v6, v9, v10, v11, v12, v13, v14, rfl⟩, rfl⟩ := j
    obtain ⟨x, rfl⟩ := hds d List.mem_cons_self
    refine ⟨trivial, ?_⟩
    exact tailX hok hp fun w4 w6 w10 w11 w12 w13 w14 => ih _ _ ⟨fun d hd => hds d (List.mem_cons_of_mem _ hd), ⟨_, _, _, _, _, _, _, _, rfl⟩, rfl⟩
end
end PW

namespace PW
open PySem PySem.Spec PyProof.Rows L2
section
variable {P : Program} {w : World} {K : PySem.W.Frag} {mg : Str → Option Value} {base : Heap}
abbrev nmPLaw : List Str := ["_law_script", "_law_turn", "_law_draws", "_law_clamps", "_law_k", "_law_passed", "_law_clamp_here", "_law_kept", "_law_found", "_law_x", "_law_due", "_law_thing", "_law_ends", "_law_end", "_law_beside"]
theorem scPLaw : FnScope nmPLaw ["_law_script"] (defScope sPLaw) := ⟨rfl, rfl, rfl, by decide +kernel, rfl, by decide +kernel, by decide +kernel⟩
theorem okPLaw {f : Addr} {fd : FuncData} (D : Def K mg "law" sPLaw ["_law_script"] f fd) (T : Txt K mg)
    {fLSame : Addr} {fdLSame : FuncData} (DLSame : Def K mg "_law_same" sLSame ["_law_found", "_law_due"] fLSame fdLSame) (GLSame : FnOk P w K mg base CX0 5 fLSame fdLSame ["_law_found", "_law_due"] (liftSp K (pspSame 5)))
    {fPJoined : Addr} {fdPJoined : FuncData} (DPJoined : Def K mg "joined" sPJoined ["clamps"] fPJoined fdPJoined) (GPJoined : FnOk P w K mg base CX0 4 fPJoined fdPJoined ["clamps"] (liftSp K pspJoined2))
    {fPClamped : Addr} {fdPClamped : FuncData} (DPClamped : Def K mg "clamped" sPClamped ["clamp", "x"] fPClamped fdPClamped) (GPClamped : FnOk P w K mg base CX0 5 fPClamped fdPClamped ["clamp", "x"] (liftSp K pspClamped))
    {fPShown : Addr} {fdPShown : FuncData} (DPShown : Def K mg "shown" sPShown ["clamp", "x"] fPShown fdPShown) (GPShown : FnOk P w K mg base CX0 5 fPShown fdPShown ["clamp", "x"] (liftSp K pspShown))
    {fLClamped : Addr} {fdLClamped : FuncData} (DLClamped : Def K mg "_law_clamped" sLClamped ["_law_clamp_here", "_law_x"] fLClamped fdLClamped) (GLClamped : FnOk P w K mg base CX0 1 fLClamped fdLClamped ["_law_clamp_here", "_law_x"] (liftSp K pspClampedL))
    {fLIsForm : Addr} {fdLIsForm : FuncData} (DLIsForm : Def K mg "_law_is_form" sLIsForm ["_law_thing"] fLIsForm fdLIsForm) (GLIsForm : FnOk P w K mg base CX0 1 fLIsForm fdLIsForm ["_law_thing"] (liftSp K pspIsForm))
    {fLPick : Addr} {fdLPick : FuncData} (DLPick : Def K mg "_law_pick" sLPick ["_law_draws", "_law_xs"] fLPick fdLPick) (GLPick : FnOk P w K mg base CX0 2 fLPick fdLPick ["_law_draws", "_law_xs"] (liftSp K pspPick))
    {fLDraw : Addr} {fdLDraw : FuncData} (DLDraw : Def K mg "_law_draw" sLDraw ["_law_draws", "_law_many"] fLDraw fdLDraw) (GLDraw : FnOk P w K mg base CX0 1 fLDraw fdLDraw ["_law_draws", "_law_many"] (liftSp K pspDraw))
    {fLClamp : Addr} {fdLClamp : FuncData} (DLClamp : Def K mg "_law_clamp" sLClamp ["_law_draws", "_law_far"] fLClamp fdLClamp) (GLClamp : FnOk P w K mg base CX0 3 fLClamp fdLClamp ["_law_draws", "_law_far"] (liftSp K pspClampL))
    {fLSource : Addr} {fdLSource : FuncData} (DLSource : Def K mg "_law_source" sLSource ["_law_script", "_law_place"] fLSource fdLSource) (GLSource : FnOk P w K mg base CX0 1 fLSource fdLSource ["_law_script", "_law_place"] (liftSp K (pspSource K))) :
    FnG P w K mg base 7 f fd ["_law_script"] (pspLaw K) := by
  refine fnG D.F scPLaw (fun cdv A outer s H E hgd hr R => (bw_cons (sw_forW PassesOwn.never rfl (iw_range1 T.range (aw_cons (ew_bin ow_add ew_int (ew_blt (b_min2 rfl) T.min (by decide +kernel) (aw_cons (ew_lenX (K := K) rfl T.len (ew_var 0)) (aw_cons ew_int aw_nil)))) aw_nil)) (gw_name (i := 1) scPLaw.nd) (bw_cons (sw_set (i := 2) scPLaw.nd (ew_call GLSource (hr.mono (by decide)) DLSource.m DLSource.F.kp DLSource.b (aw_cons (ew_var 0) (aw_cons (ew_var 1) aw_nil))))
      (bw_cons (sw_setLc (i := 3) (own := [("_law_k", 4)]) rfl scPLaw.nd (iw_range1 T.range (aw_cons (ew_call GLDraw (hr.mono (by decide)) DLDraw.m DLDraw.F.kp DLDraw.b (aw_cons (ew_var 2) (aw_cons ew_int aw_nil))) aw_nil)) (blkOk_by (N := nmPLaw) (sc := defScope sPLaw) (by decide +kernel)) (fun _ _ _ _ _ _ => (gc_name (i := 4) (by decide) scPLaw.nd)) (fun _ _ _ _ _ _ => ifw_nil) (fun _ _ _ _ _ _ => (ew_call GLClamp (hr.mono (by decide)) DLClamp.m DLClamp.F.kp DLClamp.b (aw_cons (ew_var 2) (aw_cons ew_bl aw_nil)))))
      (bw_cons (sw_setLc (i := 5) (own := [("_law_clamp_here", 6)]) rfl scPLaw.nd (iw_seq (ew_var 3)) (blkOk_by (N := nmPLaw) (sc := defScope sPLaw) (by decide +kernel)) (fun _ _ _ _ _ _ => (gc_name (i := 6) (by decide) scPLaw.nd)) (fun _ _ _ _ _ _ => ifw_nil) (fun _ _ _ _ _ _ => (ew_call GLPick (hr.mono (by decide)) DLPick.m DLPick.F.kp DLPick.b (aw_cons (ew_var 2) (aw_cons (ew_lst (aw_cons (ew_var 6) (aw_cons (ew_ty b_list T.list (by decide +kernel) (aw_cons (ew_var 6) aw_nil)) aw_nil))) aw_nil)))))
      (bw_cons (sw_set (i := 7) scPLaw.nd (ew_repr hgd (hu65 hr) T.repr (ew_var 5)))
      (bw_cons (sw_set (i := 8) scPLaw.nd (ew_call GPJoined (hr.mono (by decide)) DPJoined.m DPJoined.F.kp DPJoined.b (aw_cons (ew_call GLPick (hr.mono (by decide)) DLPick.m DLPick.F.kp DLPick.b (aw_cons (ew_var 2) (aw_cons (ew_lst (aw_cons (ew_var 5) (aw_cons (ew_ty b_tuple T.tuple (by decide +kernel) (aw_cons (ew_var 5) aw_nil)) aw_nil))) aw_nil))) aw_nil)))
      (bw_cons (sw_if (tw_ww (ww_or (tw_not (tw_tru (ew_call GLIsForm (hr.mono (by decide)) DLIsForm.m DLIsForm.F.kp DLIsForm.b (aw_cons (ew_var 8) aw_nil)))) (ww_or1 (tw_cmp (ow_ne (hu65 hr)) (ew_repr hgd (hu65 hr) T.repr (ew_var 5)) (ew_var 7))))) (bw_one (sw_ret ew_bl)) bw_nil)
      (bw_one (sw_forW PassesOwn.never rfl (iw_seq (ew_bin ow_add (ew_listRg2 rfl T.list T.range (ew_neg ew_int) ew_int) (ew_lst (aw_cons (ew_bin ow_pow ew_int ew_int) (aw_cons (ew_bin ow_sub ew_int (ew_bin ow_pow ew_int ew_int)) (aw_cons (ew_bin ow_add (ew_bin ow_pow ew_int ew_int) ew_int) (aw_cons (ew_bin ow_sub ew_int (ew_bin ow_pow ew_int ew_int)) aw_nil))))))) (gw_name (i := 9) scPLaw.nd) (bw_cons (sw_set (i := 10) scPLaw.nd (ew_var 9))
      (bw_cons (sw_forW PassesOwn.never rfl (iw_zip T.zip (aw_cons (ew_var 3) (aw_cons (ew_var 5) aw_nil))) (gw_tup (n := 2) rfl (gsw_cons (gw_name (i := 6) scPLaw.nd) (gsw_cons (gw_name (i := 11) scPLaw.nd) gsw_nil))) (bw_cons (sw_if (tw_not (tw_tru (ew_call GLSame (hr.mono (by decide)) DLSame.m DLSame.F.kp DLSame.b (aw_cons (ew_call GPClamped (hr.mono (by decide)) DPClamped.m DPClamped.F.kp DPClamped.b (aw_cons (ew_var 11) (aw_cons (ew_var 10) aw_nil))) (aw_cons (ew_call GLClamped (hr.mono (by decide)) DLClamped.m DLClamped.F.kp DLClamped.b (aw_cons (ew_var 6) (aw_cons (ew_var 10) aw_nil))) aw_nil))))) (bw_one (sw_ret ew_bl)) bw_nil)
      (bw_one (sw_set (i := 10) scPLaw.nd (ew_call GLClamped (hr.mono (by decide)) DLClamped.m DLClamped.F.kp DLClamped.b (aw_cons (ew_var 6) (aw_cons (ew_var 10) aw_nil)))))))
      (bw_cons (sw_if (tw_not (tw_tru (ew_call GLSame (hr.mono (by decide)) DLSame.m DLSame.F.kp DLSame.b (aw_cons (ew_call GPClamped (hr.mono (by decide)) DPClamped.m DPClamped.F.kp DPClamped.b (aw_cons (ew_var 8) (aw_cons (ew_var 9) aw_nil))) (aw_cons (ew_var 10) aw_nil))))) (bw_one (sw_ret ew_bl)) bw_nil)
      (bw_cons (sw_set (i := 12) scPLaw.nd (ew_call GPShown (hr.mono (by decide)) DPShown.m DPShown.F.kp DPShown.b (aw_cons (ew_var 8) (aw_cons (ew_var 10) aw_nil))))
      (bw_cons (sw_if (tw_ww (ww_or (tw_not (tw_ww (ww_or (tw_cmp ow_is (ew_ix (ew_var 12) ew_int) ew_non) (ww_or1 (tw_cmp ow_le (ew_ix (ew_var 12) ew_int) (ew_var 9)))))) (ww_or1 (tw_not (tw_ww (ww_or (tw_cmp ow_is (ew_ix (ew_var 12) ew_int) ew_non) (ww_or1 (tw_cmp ow_le (ew_var 9) (ew_ix (ew_var 12) ew_int))))))))) (bw_one (sw_ret ew_bl)) bw_nil)
      (bw_one (sw_forW PassesOwn.never rfl (iw_seq (ew_tup (aw_cons (ew_tup (aw_cons (ew_ix (ew_var 12) ew_int) (aw_cons (ew_neg ew_int) aw_nil))) (aw_cons (ew_tup (aw_cons (ew_ix (ew_var 12) ew_int) (aw_cons ew_int aw_nil))) aw_nil)))) (gw_tup (n := 2) rfl (gsw_cons (gw_name (i := 13) scPLaw.nd) (gsw_cons (gw_name (i := 14) scPLaw.nd) gsw_nil))) (bw_cons (sw_if (tw_ww (ww_and (tw_cmp ow_isNot (ew_var 13) ew_non) (ww_and1 (tw_cmp (ow_ne (hu65 hr)) (ew_call GPClamped (hr.mono (by decide)) DPClamped.m DPClamped.F.kp DPClamped.b (aw_cons (ew_var 8) (aw_cons (ew_var 13) aw_nil))) (ew_var 10))))) (bw_one (sw_ret ew_bl)) bw_nil)
      (bw_one (sw_if (tw_ww (ww_and (tw_cmp ow_isNot (ew_var 13) ew_non) (ww_and1 (tw_cmp (ow_eq (hu65 hr)) (ew_call GPClamped (hr.mono (by decide)) DPClamped.m DPClamped.F.kp DPClamped.b (aw_cons (ew_var 8) (aw_cons (ew_bin ow_add (ew_var 13) (ew_var 14)) aw_nil))) (ew_var 10))))) (bw_one (sw_ret ew_bl)) bw_nil)))))))))))))))))))
      (bw_one (sw_ret (ew_call GLSame (hr.mono (by decide)) DLSame.m DLSame.F.kp DLSame.b (aw_cons (ew_lst (aw_cons (ew_call GPJoined (hr.mono (by decide)) DPJoined.m DPJoined.F.kp DPJoined.b (aw_cons (ew_lst aw_nil) aw_nil)) (aw_cons (ew_call GPJoined (hr.mono (by decide)) DPJoined.m DPJoined.F.kp DPJoined.b (aw_cons (ew_tup aw_nil) aw_nil)) (aw_cons (ew_call GPJoined (hr.mono (by decide)) DPJoined.m DPJoined.F.kp DPJoined.b (aw_cons (ew_lst (aw_cons (ew_tup (aw_cons ew_int (aw_cons ew_int (aw_cons ew_int aw_nil)))) aw_nil)) aw_nil)) aw_nil)))) (aw_cons (ew_lst (aw_cons (ew_tup (aw_cons ew_non (aw_cons ew_int (aw_cons ew_non aw_nil)))) (aw_cons (ew_tup (aw_cons ew_non (aw_cons ew_int (aw_cons ew_non aw_nil)))) (aw_cons (ew_tup (aw_cons ew_int (aw_cons ew_int (aw_cons ew_int aw_nil)))) aw_nil)))) aw_nil))))))) (fun dvs O PQ q => ?_)
  obtain ⟨ns, rfl, rfl, hn, k⟩ := q
  refine ⟨rfl, ?_⟩
  have hb : (0 : Int) ≤ (3 + if (4 : Int) < (ns.length : Int) then 4 else (ns.length : Int)) ∧ (3 + if (4 : Int) < (ns.length : Int) then 4 else (ns.length : Int)) ≤ 8 := by split <;> omega
  refine ⟨ns, rfl, ⟨by have := hb.1; omega, by have := hb.2; omega⟩, ?_⟩
  refine loopW_ind (fun ds Γ O => (∀ d ∈ ds, ∃ k : Int, d = .d (.int k) ∧ 0 ≤ k ∧ k ≤ 1000) ∧ (∃ u1 u2 u3 u4 u5 u6 u7 u8 u9 u10 u11 u12 u13 u14, Γ = [some (.x (scriptψ K ns)), u1, u2, u3, u4, u5, u6, u7, u8, u9, u10, u11, u12, u13, u14]) ∧ O = [])
    (fun Γ O j => ?_) (fun d ds Γ O j ih => ?_) _ _ _ ⟨fun d hd => ?_, ⟨none, none, none, none, none, none, none, none, none, none, none, none, none, none, rfl⟩, rfl⟩
  · obtain ⟨_, ⟨u1, u2, u3, u4, u5, u6, u7, u8, u9, u10, u11, u12, u13, u14, rfl⟩, rfl⟩ := j
    refine ⟨trivial, ?_⟩
    refine ⟨rfl, _, [], [], rfl, rfl, .inl rfl, .nil, ?_⟩
    refine ⟨rfl, _, [], [], rfl, rfl, .inr rfl, .nil, ?_⟩
    refine ⟨rfl, _, _, [⟨some 2, 5, some 2⟩], rfl, rfl, .inl rfl, .cons ⟨.inr rfl, fun l u e1 e2 => by cases e1; cases e2; exact Int.le_refl 2⟩ .nil, ?_⟩
    refine ⟨rfl, _, _, rfl, rfl, ?_, ?_, k⟩
    · simp [dep, depL]
    · simp [wd, wdL]
  · obtain ⟨hds, ⟨u1, u2, u3, u4, u5, u6, u7, u8, u9, u10, u11, u12, u13, u14, rfl⟩, rfl⟩ := j
    obtain ⟨i, rfl, i0, i1⟩ := hds d List.mem_cons_self
    refine ⟨trivial, ?_⟩
    refine ⟨rfl, ns, i, rfl, rfl, i0, i1, ?_⟩
    refine ⟨rfl, 7, rfl, rfl, by decide, by decide, fun n n0 n1 => ?_⟩
    refine ⟨⟨by omega, by omega⟩, ?_⟩
    refine ⟨by show (rngD 0 n.toNat).length ≤ 100000; simp [rngD]; omega, ?_⟩
    refine lc_ind (fun ds acc O => (∃ cs : List Cl, acc = cs.map (fun c => .tuple c.ds) ∧ (∀ c ∈ cs, DrawnC true c) ∧ cs.length + ds.length ≤ 6) ∧ O = [.dr]) (fun acc O j => ?_) (fun d ds acc O j ih3 => ?_) _ _ _ ⟨⟨[], rfl, fun c hc => (nomatch hc), by simp [rngD]; omega⟩, rfl⟩
    · obtain ⟨⟨cs, rfl, hcs, hl⟩, rfl⟩ := j
      refine ⟨trivial, ?_⟩
      have hl : cs.length ≤ 6 := by simpa using hl
      have hok : ∀ c ∈ cs, c.ok := fun c hc => (hcs c hc).ok
      refine ⟨by show ((cs.map fun c => PyData.tuple c.ds).map DV.d).length ≤ 100000; simp; omega, ?_⟩
      refine lc_ind (fun ds acc O => (∃ c1 c2 : List Cl, cs = c1 ++ c2 ∧ ds = (c2.map fun c => PyData.tuple c.ds).map DV.d ∧ Paired IsCl acc c1) ∧ O = [.dr]) (fun acc O j => ?_) (fun d ds acc O j ih4 => ?_) _ _ _ ⟨⟨[], cs, rfl, rfl, .nil⟩, rfl⟩
      · obtain ⟨⟨c1, c2, hc, h2, hp⟩, rfl⟩ := j
        have : c2 = [] := by cases c2 with | nil => rfl | cons _ _ => cases h2
        subst this
        rw [List.append_nil] at hc
        subst hc
        refine ⟨trivial, ?_⟩
        exact law60_tail hcs hl hp fun w4 w6 w7 w8 w9 w10 w11 w12 w13 w14 => ih _ _ ⟨fun d hd => hds d (List.mem_cons_of_mem _ hd), ⟨_, _, _, _, _, _, _, _, _, _, _, _, _, _, rfl⟩, rfl⟩
      · obtain ⟨⟨c1, c2, hc, h2, hp⟩, rfl⟩ := j
        cases c2 with
        | nil => cases h2
        | cons c c2 =>
          cases h2
          refine ⟨trivial, ?_⟩
          refine ⟨rfl, _, rfl, rfl, by simp, by simp, fun d hd => ?_⟩
          have hcl : IsCl d c := ⟨by simpa [or_comm] using hd, hok c (by rw [hc]; simp)⟩
          exact ih4 _ _ ⟨⟨c1 ++ [c], c2, by rw [hc, List.append_assoc]; rfl, rfl, paired_snoc hp hcl⟩, rfl⟩
    · obtain ⟨⟨cs, rfl, hcs, hl⟩, rfl⟩ := j
      refine ⟨trivial, ?_⟩
      refine ⟨rfl, true, rfl, rfl, fun c hc => ?_⟩
      refine ih3 _ _ ⟨⟨cs ++ [c], by rw [List.map_append]; rfl, fun e he => ?_, by simp at hl ⊢; omega⟩, rfl⟩
      rcases List.mem_append.mp he with he | he
      · exact hcs e he
      · rw [List.mem_singleton] at he
        subst he
        exact hc
  · obtain ⟨i, h1, h2, h3⟩ := rngD_mem hd
    exact ⟨i, h1, h2, by have := hb.2; omega⟩
end
end PW

namespace PW
open PySem L2 PyProof.Rows
theorem all_mk {l : PySem.W.OpenLaw} {w : World} {K : PySem.W.Frag} {h : Heap} {mg : Str → Option Value} {fa : Addr} (X : K.In h) (G : h.Ns mainGlobals mg) (hfa : mg "law" = some (.ref fa))
    {f1 : Addr} {od1 an1 : Option Addr} {sl1 : Array (Option Value)} {oc1 kV1 dc1 pm1 cd1 ct1 : Value}
    {f2 : Addr} {od2 an2 : Option Addr} {sl2 : Array (Option Value)} {oc2 kV2 dc2 pm2 cd2 ct2 : Value}
    {f3 : Addr} {od3 an3 : Option Addr} {sl3 : Array (Option Value)} {oc3 kV3 dc3 pm3 cd3 ct3 : Value}
    {f4 : Addr} {od4 an4 : Option Addr} {sl4 : Array (Option Value)} {oc4 kV4 dc4 pm4 cd4 ct4 : Value}
    {f5 : Addr} {od5 an5 : Option Addr} {sl5 : Array (Option Value)} {oc5 kV5 dc5 pm5 cd5 ct5 : Value}
    {f6 : Addr} {od6 an6 : Option Addr} {sl6 : Array (Option Value)} {oc6 kV6 dc6 pm6 cd6 ct6 : Value}
    {f7 : Addr} {od7 an7 : Option Addr} {sl7 : Array (Option Value)} {oc7 kV7 dc7 pm7 cd7 ct7 : Value}
    {f8 : Addr} {od8 an8 : Option Addr} {sl8 : Array (Option Value)} {oc8 kV8 dc8 pm8 cd8 ct8 : Value}
    {f9 : Addr} {od9 an9 : Option Addr} {sl9 : Array (Option Value)} {oc9 kV9 dc9 pm9 cd9 ct9 : Value}
    {f10 : Addr} {od10 an10 : Option Addr} {sl10 : Array (Option Value)} {oc10 kV10 dc10 pm10 cd10 ct10 : Value}
    {f11 : Addr} {od11 an11 : Option Addr} {sl11 : Array (Option Value)} {oc11 kV11 dc11 pm11 cd11 ct11 : Value}
    {f12 : Addr} {od12 an12 : Option Addr} {sl12 : Array (Option Value)} {oc12 kV12 dc12 pm12 cd12 ct12 : Value}
    {f13 : Addr} {od13 an13 : Option Addr} {sl13 : Array (Option Value)} {oc13 kV13 dc13 pm13 cd13 ct13 : Value}
    {f14 : Addr} {od14 an14 : Option Addr} {sl14 : Array (Option Value)} {oc14 kV14 dc14 pm14 cd14 ct14 : Value}
    {f15 : Addr} {od15 an15 : Option Addr} {sl15 : Array (Option Value)} {oc15 kV15 dc15 pm15 cd15 ct15 : Value}
    {f16 : Addr} {od16 an16 : Option Addr} {sl16 : Array (Option Value)} {oc16 kV16 dc16 pm16 cd16 ct16 : Value}
    {f17 : Addr} {od17 an17 : Option Addr} {sl17 : Array (Option Value)} {oc17 kV17 dc17 pm17 cd17 ct17 : Value}
    {f18 : Addr} {od18 an18 : Option Addr} {sl18 : Array (Option Value)} {oc18 kV18 dc18 pm18 cd18 ct18 : Value}
    {f19 : Addr} {od19 an19 : Option Addr} {sl19 : Array (Option Value)} {oc19 kV19 dc19 pm19 cd19 ct19 : Value}
    {f20 : Addr} {od20 an20 : Option Addr} {sl20 : Array (Option Value)} {oc20 kV20 dc20 pm20 cd20 ct20 : Value}
    {f21 : Addr} {od21 an21 : Option Addr} {sl21 : Array (Option Value)} {oc21 kV21 dc21 pm21 cd21 ct21 : Value}
    {aNOTHING : Addr} {oNOTHING : Option Addr} {slNOTHING : Array (Option Value)} {nNOTHING : Nat} {tNOTHING1 : Tok}
    (a1 : PySem.W.nsIn K mainGlobals "is_list" = some (some (.ref f1))) (l1 : K.lookup f1 = some ⟨oc1, od1, .func (PySem.W.fnOf "is_list" "is_list" (defArgs sPIsList) (defBody sPIsList) (defScope sPIsList) .none kV1 dc1 pm1 an1 cd1 ct1), sl1⟩) (c1 : PySem.W.codeIn K cd1 "is_list" = true) (k1 : PySem.W.keepIn K (.ref f1) = true)
    (a2 : PySem.W.nsIn K mainGlobals "is_int" = some (some (.ref f2))) (l2 : K.lookup f2 = some ⟨oc2, od2, .func (PySem.W.fnOf "is_int" "is_int" (defArgs sPIsInt) (defBody sPIsInt) (defScope sPIsInt) .none kV2 dc2 pm2 an2 cd2 ct2), sl2⟩) (c2 : PySem.W.codeIn K cd2 "is_int" = true) (k2 : PySem.W.keepIn K (.ref f2) = true)
    (a3 : PySem.W.nsIn K mainGlobals "is_end" = some (some (.ref f3))) (l3 : K.lookup f3 = some ⟨oc3, od3, .func (PySem.W.fnOf "is_end" "is_end" (defArgs sPIsEnd) (defBody sPIsEnd) (defScope sPIsEnd) .none kV3 dc3 pm3 an3 cd3 ct3), sl3⟩) (c3 : PySem.W.codeIn K cd3 "is_end" = true) (k3 : PySem.W.keepIn K (.ref f3) = true)
    (a4 : PySem.W.nsIn K mainGlobals "is_clamp" = some (some (.ref f4))) (l4 : K.lookup f4 = some ⟨oc4, od4, .func (PySem.W.fnOf "is_clamp" "is_clamp" (defArgs sPIsClamp) (defBody sPIsClamp) (defScope sPIsClamp) .none kV4 dc4 pm4 an4 cd4 ct4), sl4⟩) (c4 : PySem.W.codeIn K cd4 "is_clamp" = true) (k4 : PySem.W.keepIn K (.ref f4) = true)
    (a5 : PySem.W.nsIn K mainGlobals "check_clamp" = some (some (.ref f5))) (l5 : K.lookup f5 = some ⟨oc5, od5, .func (PySem.W.fnOf "check_clamp" "check_clamp" (defArgs sPCheckClamp) (defBody sPCheckClamp) (defScope sPCheckClamp) .none kV5 dc5 pm5 an5 cd5 ct5), sl5⟩) (c5 : PySem.W.codeIn K cd5 "check_clamp" = true) (k5 : PySem.W.keepIn K (.ref f5) = true)
    (a6 : PySem.W.nsIn K mainGlobals "check_number" = some (some (.ref f6))) (l6 : K.lookup f6 = some ⟨oc6, od6, .func (PySem.W.fnOf "check_number" "check_number" (defArgs sPCheckNumber) (defBody sPCheckNumber) (defScope sPCheckNumber) .none kV6 dc6 pm6 an6 cd6 ct6), sl6⟩) (c6 : PySem.W.codeIn K cd6 "check_number" = true) (k6 : PySem.W.keepIn K (.ref f6) = true)
    (a7 : PySem.W.nsIn K mainGlobals "kept_within" = some (some (.ref f7))) (l7 : K.lookup f7 = some ⟨oc7, od7, .func (PySem.W.fnOf "kept_within" "kept_within" (defArgs sPKeptWithin) (defBody sPKeptWithin) (defScope sPKeptWithin) .none kV7 dc7 pm7 an7 cd7 ct7), sl7⟩) (c7 : PySem.W.codeIn K cd7 "kept_within" = true) (k7 : PySem.W.keepIn K (.ref f7) = true)
    (a8 : PySem.W.nsIn K mainGlobals "clamped" = some (some (.ref f8))) (l8 : K.lookup f8 = some ⟨oc8, od8, .func (PySem.W.fnOf "clamped" "clamped" (defArgs sPClamped) (defBody sPClamped) (defScope sPClamped) .none kV8 dc8 pm8 an8 cd8 ct8), sl8⟩) (c8 : PySem.W.codeIn K cd8 "clamped" = true) (k8 : PySem.W.keepIn K (.ref f8) = true)
    (a9 : PySem.W.nsIn K mainGlobals "in_form" = some (some (.ref f9))) (l9 : K.lookup f9 = some ⟨oc9, od9, .func (PySem.W.fnOf "in_form" "in_form" (defArgs sPInForm) (defBody sPInForm) (defScope sPInForm) .none kV9 dc9 pm9 an9 cd9 ct9), sl9⟩) (c9 : PySem.W.codeIn K cd9 "in_form" = true) (k9 : PySem.W.keepIn K (.ref f9) = true)
    (a10 : PySem.W.nsIn K mainGlobals "both" = some (some (.ref f10))) (l10 : K.lookup f10 = some ⟨oc10, od10, .func (PySem.W.fnOf "both" "both" (defArgs sPBoth) (defBody sPBoth) (defScope sPBoth) .none kV10 dc10 pm10 an10 cd10 ct10), sl10⟩) (c10 : PySem.W.codeIn K cd10 "both" = true) (k10 : PySem.W.keepIn K (.ref f10) = true)
    (a11 : PySem.W.nsIn K mainGlobals "all_joined" = some (some (.ref f11))) (l11 : K.lookup f11 = some ⟨oc11, od11, .func (PySem.W.fnOf "all_joined" "all_joined" (defArgs sPAllJoined) (defBody sPAllJoined) (defScope sPAllJoined) .none kV11 dc11 pm11 an11 cd11 ct11), sl11⟩) (c11 : PySem.W.codeIn K cd11 "all_joined" = true) (k11 : PySem.W.keepIn K (.ref f11) = true)
    (a12 : PySem.W.nsIn K mainGlobals "joined" = some (some (.ref f12))) (l12 : K.lookup f12 = some ⟨oc12, od12, .func (PySem.W.fnOf "joined" "joined" (defArgs sPJoined) (defBody sPJoined) (defScope sPJoined) .none kV12 dc12 pm12 an12 cd12 ct12), sl12⟩) (c12 : PySem.W.codeIn K cd12 "joined" = true) (k12 : PySem.W.keepIn K (.ref f12) = true)
    (a13 : PySem.W.nsIn K mainGlobals "shown" = some (some (.ref f13))) (l13 : K.lookup f13 = some ⟨oc13, od13, .func (PySem.W.fnOf "shown" "shown" (defArgs sPShown) (defBody sPShown) (defScope sPShown) .none kV13 dc13 pm13 an13 cd13 ct13), sl13⟩) (c13 : PySem.W.codeIn K cd13 "shown" = true) (k13 : PySem.W.keepIn K (.ref f13) = true)
    (a14 : PySem.W.nsIn K mainGlobals "_law_source" = some (some (.ref f14))) (l14 : K.lookup f14 = some ⟨oc14, od14, .func (PySem.W.fnOf "_law_source" "_law_source" (defArgs sLSource) (defBody sLSource) (defScope sLSource) .none kV14 dc14 pm14 an14 cd14 ct14), sl14⟩) (c14 : PySem.W.codeIn K cd14 "_law_source" = true) (k14 : PySem.W.keepIn K (.ref f14) = true)
    (a15 : PySem.W.nsIn K mainGlobals "_law_draw" = some (some (.ref f15))) (l15 : K.lookup f15 = some ⟨oc15, od15, .func (PySem.W.fnOf "_law_draw" "_law_draw" (defArgs sLDraw) (defBody sLDraw) (defScope sLDraw) .none kV15 dc15 pm15 an15 cd15 ct15), sl15⟩) (c15 : PySem.W.codeIn K cd15 "_law_draw" = true) (k15 : PySem.W.keepIn K (.ref f15) = true)
    (a16 : PySem.W.nsIn K mainGlobals "_law_pick" = some (some (.ref f16))) (l16 : K.lookup f16 = some ⟨oc16, od16, .func (PySem.W.fnOf "_law_pick" "_law_pick" (defArgs sLPick) (defBody sLPick) (defScope sLPick) .none kV16 dc16 pm16 an16 cd16 ct16), sl16⟩) (c16 : PySem.W.codeIn K cd16 "_law_pick" = true) (k16 : PySem.W.keepIn K (.ref f16) = true)
    (a17 : PySem.W.nsIn K mainGlobals "_law_same" = some (some (.ref f17))) (l17 : K.lookup f17 = some ⟨oc17, od17, .func (PySem.W.fnOf "_law_same" "_law_same" (defArgs sLSame) (defBody sLSame) (defScope sLSame) .none kV17 dc17 pm17 an17 cd17 ct17), sl17⟩) (c17 : PySem.W.codeIn K cd17 "_law_same" = true) (k17 : PySem.W.keepIn K (.ref f17) = true)
    (a18 : PySem.W.nsIn K mainGlobals "_law_clamp" = some (some (.ref f18))) (l18 : K.lookup f18 = some ⟨oc18, od18, .func (PySem.W.fnOf "_law_clamp" "_law_clamp" (defArgs sLClamp) (defBody sLClamp) (defScope sLClamp) .none kV18 dc18 pm18 an18 cd18 ct18), sl18⟩) (c18 : PySem.W.codeIn K cd18 "_law_clamp" = true) (k18 : PySem.W.keepIn K (.ref f18) = true)
    (a19 : PySem.W.nsIn K mainGlobals "_law_clamped" = some (some (.ref f19))) (l19 : K.lookup f19 = some ⟨oc19, od19, .func (PySem.W.fnOf "_law_clamped" "_law_clamped" (defArgs sLClamped) (defBody sLClamped) (defScope sLClamped) .none kV19 dc19 pm19 an19 cd19 ct19), sl19⟩) (c19 : PySem.W.codeIn K cd19 "_law_clamped" = true) (k19 : PySem.W.keepIn K (.ref f19) = true)
    (a20 : PySem.W.nsIn K mainGlobals "_law_is_form" = some (some (.ref f20))) (l20 : K.lookup f20 = some ⟨oc20, od20, .func (PySem.W.fnOf "_law_is_form" "_law_is_form" (defArgs sLIsForm) (defBody sLIsForm) (defScope sLIsForm) .none kV20 dc20 pm20 an20 cd20 ct20), sl20⟩) (c20 : PySem.W.codeIn K cd20 "_law_is_form" = true) (k20 : PySem.W.keepIn K (.ref f20) = true)
    (a21 : PySem.W.nsIn K mainGlobals "law" = some (some (.ref f21))) (l21 : K.lookup f21 = some ⟨oc21, od21, .func (PySem.W.fnOf "law" "law" (defArgs sPLaw) (defBody sPLaw) (defScope sPLaw) .none kV21 dc21 pm21 an21 cd21 ct21), sl21⟩) (c21 : PySem.W.codeIn K cd21 "law" = true) (k21 : PySem.W.keepIn K (.ref f21) = true)
    (z_str : PySem.W.nsIn K mainGlobals "str" = some none)
    (z_dict : PySem.W.nsIn K mainGlobals "dict" = some none)
    (z_set : PySem.W.nsIn K mainGlobals "set" = some none)
    (z_sorted : PySem.W.nsIn K mainGlobals "sorted" = some none)
    (z_range : PySem.W.nsIn K mainGlobals "range" = some none)
    (z_min : PySem.W.nsIn K mainGlobals "min" = some none)
    (z_max : PySem.W.nsIn K mainGlobals "max" = some none)
    (z_sum : PySem.W.nsIn K mainGlobals "sum" = some none)
    (z_len : PySem.W.nsIn K mainGlobals "len" = some none)
    (z_int : PySem.W.nsIn K mainGlobals "int" = some none)
    (z_isinstance : PySem.W.nsIn K mainGlobals "isinstance" = some none)
    (z_all : PySem.W.nsIn K mainGlobals "all" = some none)
    (z_any : PySem.W.nsIn K mainGlobals "any" = some none)
    (z_zip : PySem.W.nsIn K mainGlobals "zip" = some none)
    (z_enumerate : PySem.W.nsIn K mainGlobals "enumerate" = some none)
    (z_list : PySem.W.nsIn K mainGlobals "list" = some none)
    (z_tuple : PySem.W.nsIn K mainGlobals "tuple" = some none)
    (z_bool : PySem.W.nsIn K mainGlobals "bool" = some none)
    (z_repr : PySem.W.nsIn K mainGlobals "repr" = some none)
    (mNOTHING : PySem.W.nsIn K mainGlobals "NOTHING" = some (some (.ref aNOTHING))) (lmNOTHING : K.lookup aNOTHING = some ⟨.type "tuple", oNOTHING, .seq #[.none, .int 0 tNOTHING1, .none] nNOTHING, slNOTHING⟩) :
    ∃ fd : FuncData, (∀ (s : Shared) (v : Value), BindsTo s fd ⟨[v], []⟩ [("_law_script", v)]) ∧ ∀ base : Heap, K.In base → base.Ns mainGlobals mg → FnG l.prog w K mg base 7 fa fd ["_law_script"] (pspLaw K) := by
  have e := hfa.symm.trans (PySem.W.mg_of X G a21)
  cases e
  have T : Txt K mg := { str := PySem.W.mg_none_of X G z_str, dict := PySem.W.mg_none_of X G z_dict, set := PySem.W.mg_none_of X G z_set, sorted := PySem.W.mg_none_of X G z_sorted, range := PySem.W.mg_none_of X G z_range, min := PySem.W.mg_none_of X G z_min, max := PySem.W.mg_none_of X G z_max, sum := PySem.W.mg_none_of X G z_sum, len := PySem.W.mg_none_of X G z_len, int := PySem.W.mg_none_of X G z_int, isi := PySem.W.mg_none_of X G z_isinstance, all := PySem.W.mg_none_of X G z_all, any := PySem.W.mg_none_of X G z_any, zip := PySem.W.mg_none_of X G z_zip, enumerate := PySem.W.mg_none_of X G z_enumerate, list := PySem.W.mg_none_of X G z_list, tuple := PySem.W.mg_none_of X G z_tuple, bool := PySem.W.mg_none_of X G z_bool, repr := PySem.W.mg_none_of X G z_repr }
  have M_NOTHING : ModC K mg "NOTHING" (.tuple [.none, .int 0, .none]) (.ref aNOTHING) (.ref aNOTHING) := ⟨PySem.W.mg_of X G mNOTHING, rfl, fun _ => .tup (.inr ⟨_, _, _, lmNOTHING, rfl, rfl, (by show 3 ≤ sizeLine; decide), (show Vals [L2.V.non, L2.V.int 0, L2.V.non] _ from (.cons rfl (.cons ⟨_, rfl⟩ (.cons rfl .nil))))⟩) (.cons .non (.cons (.int _) (.cons .non .nil)))⟩
  have F1 := fun_mk (st := sPIsList) l1 c1 k1
  have DPIsList : Def K mg "is_list" sPIsList ["thing"] f1 _ := ⟨F1, PySem.W.mg_of X G a1, F1.binds (ps := ["thing"]) fun _ _ _ _ _ _ us hl => match us, hl with | [_], _ => rfl⟩
  have F2 := fun_mk (st := sPIsInt) l2 c2 k2
  have DPIsInt : Def K mg "is_int" sPIsInt ["thing"] f2 _ := ⟨F2, PySem.W.mg_of X G a2, F2.binds (ps := ["thing"]) fun _ _ _ _ _ _ us hl => match us, hl with | [_], _ => rfl⟩
  have F3 := fun_mk (st := sPIsEnd) l3 c3 k3
  have DPIsEnd : Def K mg "is_end" sPIsEnd ["thing"] f3 _ := ⟨F3, PySem.W.mg_of X G a3, F3.binds (ps := ["thing"]) fun _ _ _ _ _ _ us hl => match us, hl with | [_], _ => rfl⟩
  have F4 := fun_mk (st := sPIsClamp) l4 c4 k4
  have DPIsClamp : Def K mg "is_clamp" sPIsClamp ["thing"] f4 _ := ⟨F4, PySem.W.mg_of X G a4, F4.binds (ps := ["thing"]) fun _ _ _ _ _ _ us hl => match us, hl with | [_], _ => rfl⟩
  have F5 := fun_mk (st := sPCheckClamp) l5 c5 k5
  have DPCheckClamp : Def K mg "check_clamp" sPCheckClamp ["thing"] f5 _ := ⟨F5, PySem.W.mg_of X G a5, F5.binds (ps := ["thing"]) fun _ _ _ _ _ _ us hl => match us, hl with | [_], _ => rfl⟩
  have F6 := fun_mk (st := sPCheckNumber) l6 c6 k6
  have DPCheckNumber : Def K mg "check_number" sPCheckNumber ["thing"] f6 _ := ⟨F6, PySem.W.mg_of X G a6, F6.binds (ps := ["thing"]) fun _ _ _ _ _ _ us hl => match us, hl with | [_], _ => rfl⟩
  have F7 := fun_mk (st := sPKeptWithin) l7 c7 k7
  have DPKeptWithin : Def K mg "kept_within" sPKeptWithin ["x", "low", "high"] f7 _ := ⟨F7, PySem.W.mg_of X G a7, F7.binds (ps := ["x", "low", "high"]) fun _ _ _ _ _ _ us hl => match us, hl with | [_, _, _], _ => rfl⟩
  have F8 := fun_mk (st := sPClamped) l8 c8 k8
  have DPClamped : Def K mg "clamped" sPClamped ["clamp", "x"] f8 _ := ⟨F8, PySem.W.mg_of X G a8, F8.binds (ps := ["clamp", "x"]) fun _ _ _ _ _ _ us hl => match us, hl with | [_, _], _ => rfl⟩
  have F9 := fun_mk (st := sPInForm) l9 c9 k9
  have DPInForm : Def K mg "in_form" sPInForm ["low", "step", "high"] f9 _ := ⟨F9, PySem.W.mg_of X G a9, F9.binds (ps := ["low", "step", "high"]) fun _ _ _ _ _ _ us hl => match us, hl with | [_, _, _], _ => rfl⟩
  have F10 := fun_mk (st := sPBoth) l10 c10 k10
  have DPBoth : Def K mg "both" sPBoth ["one", "other"] f10 _ := ⟨F10, PySem.W.mg_of X G a10, F10.binds (ps := ["one", "other"]) fun _ _ _ _ _ _ us hl => match us, hl with | [_, _], _ => rfl⟩
  have F11 := fun_mk (st := sPAllJoined) l11 c11 k11
  have DPAllJoined : Def K mg "all_joined" sPAllJoined ["clamps"] f11 _ := ⟨F11, PySem.W.mg_of X G a11, F11.binds (ps := ["clamps"]) fun _ _ _ _ _ _ us hl => match us, hl with | [_], _ => rfl⟩
  have F12 := fun_mk (st := sPJoined) l12 c12 k12
  have DPJoined : Def K mg "joined" sPJoined ["clamps"] f12 _ := ⟨F12, PySem.W.mg_of X G a12, F12.binds (ps := ["clamps"]) fun _ _ _ _ _ _ us hl => match us, hl with | [_], _ => rfl⟩
  have F13 := fun_mk (st := sPShown) l13 c13 k13
  have DPShown : Def K mg "shown" sPShown ["clamp", "x"] f13 _ := ⟨F13, PySem.W.mg_of X G a13, F13.binds (ps := ["clamp", "x"]) fun _ _ _ _ _ _ us hl => match us, hl with | [_, _], _ => rfl⟩
  have F14 := fun_mk (st := sLSource) l14 c14 k14
  have DLSource : Def K mg "_law_source" sLSource ["_law_script", "_law_place"] f14 _ := ⟨F14, PySem.W.mg_of X G a14, F14.binds (ps := ["_law_script", "_law_place"]) fun _ _ _ _ _ _ us hl => match us, hl with | [_, _], _ => rfl⟩
  have F15 := fun_mk (st := sLDraw) l15 c15 k15
  have DLDraw : Def K mg "_law_draw" sLDraw ["_law_draws", "_law_many"] f15 _ := ⟨F15, PySem.W.mg_of X G a15, F15.binds (ps := ["_law_draws", "_law_many"]) fun _ _ _ _ _ _ us hl => match us, hl with | [_, _], _ => rfl⟩
  have F16 := fun_mk (st := sLPick) l16 c16 k16
  have DLPick : Def K mg "_law_pick" sLPick ["_law_draws", "_law_xs"] f16 _ := ⟨F16, PySem.W.mg_of X G a16, F16.binds (ps := ["_law_draws", "_law_xs"]) fun _ _ _ _ _ _ us hl => match us, hl with | [_, _], _ => rfl⟩
  have F17 := fun_mk (st := sLSame) l17 c17 k17
  have DLSame : Def K mg "_law_same" sLSame ["_law_found", "_law_due"] f17 _ := ⟨F17, PySem.W.mg_of X G a17, F17.binds (ps := ["_law_found", "_law_due"]) fun _ _ _ _ _ _ us hl => match us, hl with | [_, _], _ => rfl⟩
  have F18 := fun_mk (st := sLClamp) l18 c18 k18
  have DLClamp : Def K mg "_law_clamp" sLClamp ["_law_draws", "_law_far"] f18 _ := ⟨F18, PySem.W.mg_of X G a18, F18.binds (ps := ["_law_draws", "_law_far"]) fun _ _ _ _ _ _ us hl => match us, hl with | [_, _], _ => rfl⟩
  have F19 := fun_mk (st := sLClamped) l19 c19 k19
  have DLClamped : Def K mg "_law_clamped" sLClamped ["_law_clamp_here", "_law_x"] f19 _ := ⟨F19, PySem.W.mg_of X G a19, F19.binds (ps := ["_law_clamp_here", "_law_x"]) fun _ _ _ _ _ _ us hl => match us, hl with | [_, _], _ => rfl⟩
  have F20 := fun_mk (st := sLIsForm) l20 c20 k20
  have DLIsForm : Def K mg "_law_is_form" sLIsForm ["_law_thing"] f20 _ := ⟨F20, PySem.W.mg_of X G a20, F20.binds (ps := ["_law_thing"]) fun _ _ _ _ _ _ us hl => match us, hl with | [_], _ => rfl⟩
  have F21 := fun_mk (st := sPLaw) l21 c21 k21
  have DPLaw : Def K mg "law" sPLaw ["_law_script"] fa _ := ⟨F21, hfa, F21.binds (ps := ["_law_script"]) fun _ _ _ _ _ _ us hl => match us, hl with | [_], _ => rfl⟩
  refine ⟨PySem.W.fnOf "law" "law" (defArgs sPLaw) (defBody sPLaw) (defScope sPLaw) .none kV21 dc21 pm21 an21 cd21 ct21, fun s v => .of_eq rfl, fun base _ _ => ?_⟩
  have GLDraw := okLDraw (P := l.prog) (w := w) (base := base) DLDraw T 
  have GLSource := okLSource (P := l.prog) (w := w) (base := base) DLSource T 
  have GLPick := okLPick (P := l.prog) (w := w) (base := base) DLPick T DLDraw GLDraw
  have GPIsList := okPIsList (P := l.prog) (w := w) (base := base) DPIsList T 
  have GPIsInt := okPIsInt (P := l.prog) (w := w) (base := base) DPIsInt T 
  have GPIsEnd := okPIsEnd (P := l.prog) (w := w) (base := base) DPIsEnd T DPIsInt GPIsInt
  have GPIsClamp := okPIsClamp (P := l.prog) (w := w) (base := base) DPIsClamp T DPIsEnd GPIsEnd DPIsInt GPIsInt DPIsList GPIsList
  have GPCheckClamp := okPCheckClamp (P := l.prog) (w := w) (base := base) DPCheckClamp T DPIsClamp GPIsClamp
  have GPKeptWithin := okPKeptWithin (P := l.prog) (w := w) (base := base) DPKeptWithin T 
  have GPInForm := okPInForm (P := l.prog) (w := w) (base := base) DPInForm T 
  have GPBoth := okPBoth (P := l.prog) (w := w) (base := base) DPBoth T DPInForm GPInForm DPKeptWithin GPKeptWithin
  have GPAllJoined := okPAllJoined (P := l.prog) (w := w) (base := base) DPAllJoined T DPBoth GPBoth M_NOTHING
  have GPJoined := okPJoined (P := l.prog) (w := w) (base := base) DPJoined T DPAllJoined GPAllJoined DPIsClamp GPIsClamp DPIsList GPIsList
  have GPCheckNumber := okPCheckNumber (P := l.prog) (w := w) (base := base) DPCheckNumber T DPIsInt GPIsInt
  have GPClamped := okPClamped (P := l.prog) (w := w) (base := base) DPClamped T DPKeptWithin GPKeptWithin DPCheckNumber GPCheckNumber DPCheckClamp GPCheckClamp
  have GPShown := okPShown (P := l.prog) (w := w) (base := base) DPShown T DPKeptWithin GPKeptWithin DPCheckNumber GPCheckNumber DPCheckClamp GPCheckClamp
  have GLSame := okLSame (P := l.prog) (w := w) (base := base) DLSame T 5
  have GLClamp := okLClamp (P := l.prog) (w := w) (base := base) DLClamp T DLPick GLPick DLDraw GLDraw
  have GLClamped := okLClamped (P := l.prog) (w := w) (base := base) DLClamped T 
  have GLIsForm := okLIsForm (P := l.prog) (w := w) (base := base) DLIsForm T 
  exact okPLaw (P := l.prog) (w := w) (base := base) DPLaw T DLSame GLSame DPJoined GPJoined DPClamped GPClamped DPShown GPShown DLClamped GLClamped DLIsForm GLIsForm DLPick GLPick DLDraw GLDraw DLClamp GLClamp DLSource GLSource
end PW


open PySem PySem.W PyProof.Rows in
set_option maxRecDepth 100000 in
set_option maxHeartbeats 0 in
theorem PySem.Challenge.cw_heldnotes_k60_clamps_joined_holds : PySem.Challenge.rw_heldnotes_k60_clamps_joined.Holds := by
  w_on; o_law; k_head; (case hw => w_witness2)
  k_fill
  refine PW.walkLG (l := PySem.Challenge.rw_heldnotes_k60_clamps_joined) 7 ⟨rfl, by decide, by decide⟩ rfl rfl (fun w h Y => PySem.W.kIn_of Y) ?F
  case F =>
    intro w mg fa h KX G hmg
    refine' PW.all_mk KX G hmg ?a1 ?l1 ?c1 ?k1 ?a2 ?l2 ?c2 ?k2 ?a3 ?l3 ?c3 ?k3 ?a4 ?l4 ?c4 ?k4 ?a5 ?l5 ?c5 ?k5 ?a6 ?l6 ?c6 ?k6 ?a7 ?l7 ?c7 ?k7 ?a8 ?l8 ?c8 ?k8 ?a9 ?l9 ?c9 ?k9 ?a10 ?l10 ?c10 ?k10 ?a11 ?l11 ?c11 ?k11 ?a12 ?l12 ?c12 ?k12 ?a13 ?l13 ?c13 ?k13 ?a14 ?l14 ?c14 ?k14 ?a15 ?l15 ?c15 ?k15 ?a16 ?l16 ?c16 ?k16 ?a17 ?l17 ?c17 ?k17 ?a18 ?l18 ?c18 ?k18 ?a19 ?l19 ?c19 ?k19 ?a20 ?l20 ?c20 ?k20 ?a21 ?l21 ?c21 ?k21 ?z_str ?z_dict ?z_set ?z_sorted ?z_range ?z_min ?z_max ?z_sum ?z_len ?z_int ?z_isinstance ?z_all ?z_any ?z_zip ?z_enumerate ?z_list ?z_tuple ?z_bool ?z_repr ?mNOTHING ?lmNOTHING
    (case a1 => k_is)
    (case l1 => k_is)
    (case c1 => k_is)
    (case k1 => k_is)
    (case a2 => k_is)
    (case l2 => k_is)
    (case c2 => k_is)
    (case k2 => k_is)
    (case a3 => k_is)
    (case l3 => k_is)
    (case c3 => k_is)
    (case k3 => k_is)
    (case a4 => k_is)
    (case l4 => k_is)
    (case c4 => k_is)
    (case k4 => k_is)
    (case a5 => k_is)
    (case l5 => k_is)
    (case c5 => k_is)
    (case k5 => k_is)
    (case a6 => k_is)
    (case l6 => k_is)
    (case c6 => k_is)
    (case k6 => k_is)
    (case a7 => k_is)
    (case l7 => k_is)
    (case c7 => k_is)
    (case k7 => k_is)
    (case a8 => k_is)
    (case l8 => k_is)
    (case c8 => k_is)
    (case k8 => k_is)
    (case a9 => k_is)
    (case l9 => k_is)
    (case c9 => k_is)
    (case k9 => k_is)
    (case a10 => k_is)
    (case l10 => k_is)
    (case c10 => k_is)
    (case k10 => k_is)
    (case a11 => k_is)
    (case l11 => k_is)
    (case c11 => k_is)
    (case k11 => k_is)
    (case a12 => k_is)
    (case l12 => k_is)
    (case c12 => k_is)
    (case k12 => k_is)
    (case a13 => k_is)
    (case l13 => k_is)
    (case c13 => k_is)
    (case k13 => k_is)
    (case a14 => k_is)
    (case l14 => k_is)
    (case c14 => k_is)
    (case k14 => k_is)
    (case a15 => k_is)
    (case l15 => k_is)
    (case c15 => k_is)
    (case k15 => k_is)
    (case a16 => k_is)
    (case l16 => k_is)
    (case c16 => k_is)
    (case k16 => k_is)
    (case a17 => k_is)
    (case l17 => k_is)
    (case c17 => k_is)
    (case k17 => k_is)
    (case a18 => k_is)
    (case l18 => k_is)
    (case c18 => k_is)
    (case k18 => k_is)
    (case a19 => k_is)
    (case l19 => k_is)
    (case c19 => k_is)
    (case k19 => k_is)
    (case a20 => k_is)
    (case l20 => k_is)
    (case c20 => k_is)
    (case k20 => k_is)
    (case a21 => k_is)
    (case l21 => k_is)
    (case c21 => k_is)
    (case k21 => k_is)
    (case z_str => k_is)
    (case z_dict => k_is)
    (case z_set => k_is)
    (case z_sorted => k_is)
    (case z_range => k_is)
    (case z_min => k_is)
    (case z_max => k_is)
    (case z_sum => k_is)
    (case z_len => k_is)
    (case z_int => k_is)
    (case z_isinstance => k_is)
    (case z_all => k_is)
    (case z_any => k_is)
    (case z_zip => k_is)
    (case z_enumerate => k_is)
    (case z_list => k_is)
    (case z_tuple => k_is)
    (case z_bool => k_is)
    (case z_repr => k_is)
    (case mNOTHING => k_is)
    (case lmNOTHING => k_is)

